"""Ledgers and plans: what deeds ask and spend, and what they pay for it along their pasts."""

from owedonce.goings import MOST_NUMBER_PARTS

MOST_PAIRS = 100000
MOST_AMOUNT = 10 ** 18


class Book:
    """The numbers of a ledger by their places among its rows, which are rising as they are."""

    def __init__(self, ledger):
        self.deeds = ledger[0]
        self.numbers = [row[0] for row in ledger[1]]
        self.steps = [row[1] for row in ledger[1]]
        self.places = {number: at for at, number in enumerate(self.numbers)}
        self.asked = [self.places_of(row[2]) for row in ledger[1]]

    def places_of(self, numbers):
        return [self.places[number] for number in numbers]

    def reach(self, k, found):
        """Have all that a deed asks found; told are the places that weren't found ahead."""
        new = []
        todo = self.places_of(self.deeds[k - 1][2])
        # What was found ahead is not gone through again: all that it asks was found, too.
        while todo:
            at = todo.pop()
            if at in found:
                continue
            found[at] = True
            new.append(at)
            todo.extend([other for other in self.asked[at] if other not in found])
        return new

    def asked_by(self, k):
        """The rising list of the places of what a deed asks."""
        return sorted(self.reach(k, {}))

    def paid_with(self, ahead, pays):
        """What is paid on each number of the ledger, by its place: that ahead, and what one more deed pays."""
        paid = list(ahead)
        for number, amount in pays:
            if number in self.places:
                paid[self.places[number]] += amount
        return paid


def past(ledger, k):
    """The rising list of the deeds on the way from version 0 to a deed, itself too."""
    found = []
    while k > 0:
        found.append(k)
        k = ledger[0][k - 1][0]
    return sorted(found)


def asks(ledger, k):
    """The rising list of the numbers that a deed asks, and what it asks, and so on."""
    book = Book(ledger)
    return [book.numbers[at] for at in book.asked_by(k)]


def spent(ledger, order):
    """For each deed of an order its own steps, and those of what it asks and no deed ahead of it."""
    book = Book(ledger)
    found = {}
    told = []
    for k in order:
        told.append(book.deeds[k - 1][1] + sum([book.steps[at] for at in book.reach(k, found)]))
    return told


def lacking(ledger, plan):
    """The rising list of (deed, number, paid, own steps) where a past pays less than its deed asks."""
    book = Book(ledger)
    paid = [[0] * len(book.numbers)]
    found = []
    for k, deed in enumerate(ledger[0], 1):
        own = book.paid_with(paid[deed[0]], plan[k - 1])
        paid.append(own)
        for at in book.asked_by(k):
            if own[at] < book.steps[at]:
                found.append((k, book.numbers[at], own[at], book.steps[at]))
    return found


def _are_whole(things):
    return all([isinstance(thing, int) and not isinstance(thing, bool) for thing in things])


def _is_pay(thing):
    if not isinstance(thing, tuple) or len(thing) != 2 or not isinstance(thing[0], tuple):
        return False
    number, amount = thing
    if not 1 <= len(number) <= MOST_NUMBER_PARTS or not _are_whole(number):
        return False
    return _are_whole((amount,)) and 0 <= amount <= MOST_AMOUNT


def _are_pays(thing):
    if not isinstance(thing, list) or len(thing) > MOST_PAIRS:
        return False
    return all(_is_pay(pair) for pair in thing)


def _is_plan(ledger, thing):
    if not isinstance(thing, list) or len(thing) != len(ledger[0]):
        return False
    return all(_are_pays(pays) for pays in thing)


def is_let_by(ledger, thing):
    """Tell whether thing, whatever it is, is a plan by which nothing is lacking."""
    return _is_plan(ledger, thing) and len(lacking(ledger, thing)) == 0


def prices(ledger, plan):
    """The price of each deed: its own steps and what it pays."""
    return [deed[1] + sum([amount for _, amount in pays]) for deed, pays in zip(ledger[0], plan)]


def late_plan(ledger):
    """The plan by which each deed pays what its past ahead of it lacks, on each number that it asks."""
    book = Book(ledger)
    paid = [[0] * len(book.numbers)]
    plan = []
    for k, deed in enumerate(ledger[0], 1):
        ahead = paid[deed[0]]
        lacks = [(at, book.steps[at] - ahead[at]) for at in book.asked_by(k)]
        pays = [(book.numbers[at], amount) for at, amount in lacks if amount > 0]
        paid.append(book.paid_with(ahead, pays))
        plan.append(pays)
    return plan
