"""What several tests need: terms of told sizes, another reckoner to compare with, chance programs."""

import random
import re
import sys
import unittest

from owedonce.errors import Lost, Missing, NoDeed, NoKept, NoProgram, NoRow, NoText, OwedError, Stuck, TooMany

PADS = ("pa", "pb", "pc", "pd", "pe", "pf", "pg", "ph", "pi", "pj", "pk", "pl")


def num(n):
    return ("num", n)


def name(x):
    return ("name", x)


def lets(pairs, body):
    """Lets one within another: each pair a name and its term."""
    for x, term in reversed(pairs):
        body = ("let", x, term, body)
    return body


def unused(many, body):
    """The body within so many lets that nothing asks."""
    return lets([("unused", num(0))] * many, body)


def pick(word, *branches):
    return ("by", word, tuple(branches))


FIELDS = {TooMany: (), NoProgram: (), NoDeed: (), Stuck: ("number",), Lost: ("number",), Missing: ("place",),
          NoText: ("at",), NoKept: ("name",), NoRow: ("row",)}


def told(call, *given, **named):
    """What a call tells, or its refusal with its field."""
    try:
        return ("told", call(*given, **named))
    except OwedError as refusal:
        fields = FIELDS[type(refusal)]
        return (type(refusal).__name__, *[getattr(refusal, field) for field in fields])


def fewest(call, *given, most=1 << 20):
    """The least limit with which a run isn't TooMany: how many pieces it takes."""
    low, high = 0, most
    while low < high:
        middle = (low + high) // 2
        if told(call, *given, limit=middle) == ("TooMany",):
            low = middle + 1
        else:
            high = middle
    return low


def lasting(pieces, body=num(0)):
    """A body that takes one piece, as a program that takes just so many, plainly, late and by each seer.

    No let comes up in it, or a single one, where one piece is left over.
    """
    left = pieces - 3
    costs = [6 * 2 ** k - 2 for k in range(12)]
    for pad, cost in reversed(list(zip(PADS, costs))):
        while left >= cost:
            body, left = ("now", "unused", ("call", pad, "pa"), body), left - cost
    for cost, term in ((3, name("pa")), (2, num(0))):
        if left >= cost:
            body, left = ("now", "unused", term, body), left - cost
    body = unused(left, body)
    funs = [("pa", ("fun", "x", num(0)))]
    for before, pad in zip(PADS, PADS[1:]):
        once = ("call", before, "pa")
        funs.append((pad, ("fun", "x", ("now", "unused", once, once))))
    return ("letall", tuple(funs[:6]), ("letall", tuple(funs[6:]), body))


def nested(k):
    """A program of the worth 2 ** k, in which as many askings stand within one another."""
    funs = ["twice" + letter for letter in "abcdefghijklmn"[:k + 1]]
    body = ("call", funs[k], "zero")
    for at in range(k, 0, -1):
        twice = ("let", "u", ("call", funs[at - 1], "x"), ("call", funs[at - 1], "u"))
        body = ("letall", ((funs[at], ("fun", "x", twice)),), body)
    body = ("letall", ((funs[0], ("fun", "x", ("sum", "x", "one"))),), body)
    return lets([("one", num(1)), ("zero", num(0))], body)


def deep(k):
    """A program whose longest number of a let has k + 1 parts."""
    again = lets([("m", ("minus", "k", "one")), ("r", ("call", "deep", "m"))], name("r"))
    body = ("let", "end", ("less", "k", "one"), pick("end", ("yes", (), num(7)), ("no", (), again)))
    call = lets([("k", num(k))], ("call", "deep", "k"))
    return lets([("one", num(1))], ("letall", (("deep", ("fun", "k", body)),), call))


def nines(body):
    """The body, in which n stands for 10 ** 60 - 1, and one and zero for 1 and 0."""
    ten = ("fun", "x", lets([
        ("d", ("sum", "x", "x")), ("q", ("sum", "d", "d")), ("e", ("sum", "q", "q")),
        ("t", ("sum", "e", "d"))], ("sum", "t", "nine")))
    six = name("x")
    for _ in range(6):
        six = ("let", "x", ("call", "ten", "x"), six)
    for _ in range(7):
        body = ("let", "n", ("call", "six", "n"), body)
    body = ("letall", (("ten", ten), ("six", ("fun", "x", six))), body)
    return lets([("zero", num(0)), ("one", num(1)), ("nine", num(9)), ("n", num(10 ** 18 - 1))], body)


class ReckonerTest(unittest.TestCase):
    """Tests that use the other reckoner: it goes into what is asked by Python's own calls."""

    @classmethod
    def setUpClass(cls):
        cls.before = sys.getrecursionlimit()
        sys.setrecursionlimit(20000)

    @classmethod
    def tearDownClass(cls):
        sys.setrecursionlimit(cls.before)


class Reckoner:
    """Goings once more, by Python's own calls: kept, late, by their numbers.

    Says, where it is told, is what a seer says of a let's number.
    """

    def __init__(self, is_late, limit, says=None):
        self.is_late = is_late
        self.left = limit
        self.says = says
        self.kept = {}
        self.rows = {}
        self.nows = set()
        self.places = set()

    def piece(self):
        if not self.left:
            raise TooMany()
        self.left -= 1

    def force(self, ref):
        if ref[0] == "stands":
            return ref[1]
        if ref[0] == "away":
            raise Lost(ref[1])
        if ref[0] == "part":
            return self.part(*ref[1:])
        _, number, term, env = ref
        if number in self.kept:
            return self.kept[number]
        worth = self.begin(number, term, env)
        if self.is_late:
            self.kept[number] = worth
        return worth

    def part(self, place, given):
        self.places.add(place)
        if given is None:
            raise Missing(place)
        if isinstance(given, int):
            return given
        return ("made", given[0], [("part", (*place, at), one) for at, one in enumerate(given[1])])

    def begin(self, number, term, env):
        self.rows.setdefault(number, [0, set()])
        return self.go([number, 0], term, env)

    def ask(self, going, env, x):
        return self.ask_ref(going, env[x])

    def ask_ref(self, going, ref):
        self.piece()
        if ref[0] == "put":
            self.rows[going[0]][1].add(ref[1])
        return self.force(ref)

    def number(self, going, env, x):
        worth = self.ask(going, env, x)
        if not isinstance(worth, int):
            raise Stuck(going[0])
        return worth

    def put(self, going, term, env):
        going[1] += 1
        number = (*going[0], going[1])
        if len(number) > 100:
            raise TooMany()
        return ("put", number, term, env)

    def worth(self, term, env):
        if term[0] == "fun":
            return ("fun", term[1], term[2], env)
        return ("made", term[1], [env[x] for x in term[2]])

    def go(self, going, term, env):
        self.piece()
        sort = term[0]
        if sort == "num":
            return term[1]
        if sort in ("fun", "made"):
            return self.worth(term, env)
        if sort == "name":
            return self.ask(going, env, term[1])
        if sort == "call":
            return self.called(going, self.ask(going, env, term[1]), env[term[2]])
        if sort in ("let", "now"):
            ref = self.put(going, term[2], env)
            if sort == "now":
                self.nows.add(ref[1])
                self.rows[going[0]][1].add(ref[1])
                self.force(ref)
            elif self.says and self.says(ref[1]):
                self.force(ref)
            elif self.says:
                ref = ("away", ref[1])
            return self.go(going, term[3], {**env, term[1]: ref})
        if sort == "letall":
            env = {**env, **{x: ["stands", None] for x, _ in term[1]}}
            for x, w in term[1]:
                env[x][1] = self.worth(w, env)
            return self.go(going, term[2], env)
        if sort == "by":
            made = self.ask(going, env, term[1])
            for word, xs, inner in term[2]:
                if not isinstance(made, int) and made[:2] == ("made", word) and len(xs) == len(made[2]):
                    return self.go(going, inner, {**env, **dict(zip(xs, made[2]))})
            raise Stuck(going[0])
        return self.reckon(going, env, *term)

    def called(self, going, fun, ref):
        if isinstance(fun, int) or fun[0] != "fun":
            raise Stuck(going[0])
        self.rows[going[0]][0] += 1
        return self.go(going, fun[2], {**fun[3], fun[1]: ref})

    def reckon(self, going, env, sort, x, y):
        first = self.number(going, env, x)
        second = self.number(going, env, y)
        if sort in ("less", "same"):
            return ("made", "yes" if (first < second if sort == "less" else first == second) else "no", [])
        worth = first + second if sort == "sum" else first - second
        if worth >= 10 ** 60 or worth < -10 ** 60 + 1:
            raise TooMany()
        return worth

    def seen(self, worth, look):
        if isinstance(worth, int):
            return worth
        if worth[0] == "fun":
            return ("fun",)
        out = []
        for at, ref in enumerate(worth[2]):
            if isinstance(look, int):
                part = look - 1
            else:
                part = look[at] if at < len(look) else None
            if part is None or part == 0:
                out.append(None)
                continue
            self.piece()
            out.append(self.seen(self.force(ref), part))
        return (worth[1], tuple(out))

    def steps(self):
        return sum(steps for steps, _ in self.rows.values())

    def told_rows(self):
        return sorted((number, steps, sorted(asked)) for number, (steps, asked) in self.rows.items())

    def run(self, program, look, env=None):
        if look is None or look == 0:
            return (None, 0)
        seen = self.seen(self.begin((), program, env or {}), look)
        return (seen, self.steps())

    def deed(self, k, program, version, n):
        """What a look 1 tells of the answer, and the worth of the version."""
        going = [(k,), 0]
        self.rows[(k,)] = [0, set()]
        worth = self.go(going, program, {})
        for one in (version, n):
            worth = self.called(going, worth, ("stands", one))
        if isinstance(worth, int) or worth[:2] != ("made", "out") or len(worth[2]) != 2:
            raise Stuck((k,))
        first, second = worth[2]
        answer = self.ask_ref(going, first)
        return self.seen(answer, ()), self.ask_ref(going, second)


def stripped(given, places, place=()):
    """An input with None in the place of each part that isn't among the places."""
    if place not in places:
        return None
    if isinstance(given, int):
        return given
    return (given[0], tuple(stripped(part, places, (*place, at)) for at, part in enumerate(given[1])))


def other_plain(program, look, limit):
    return Reckoner(False, limit).run(program, look)


def other_late(program, look, limit):
    return Reckoner(True, limit).run(program, look)


def other_rows(program, look, limit):
    reckoner = Reckoner(True, limit)
    reckoner.run(program, look)
    return reckoner.told_rows()


def other_least(program, look, limit):
    reckoner = Reckoner(True, limit)
    reckoner.run(program, look)
    return sorted(set(reckoner.rows) - reckoner.nows - {()}), reckoner.steps()


def other_seer(program, numbers, look, limit):
    return Reckoner(True, limit, lambda number: number in numbers).run(program, look)


def other_seer_rows(program, numbers, look, limit):
    reckoner = Reckoner(True, limit, lambda number: number in numbers)
    reckoner.run(program, look)
    return reckoner.told_rows()


class Unsaid(Exception):
    """A let comes up of which nothing is said."""


def other_all_seers(program, look, most, limit):
    """All ways, found by running anew with one more let said each time; rising by their numbers."""
    found, todo, many = [], [{}], 0

    def says(number):
        if number not in said:
            raise Unsaid(number)
        return said[number]

    while todo:
        said = todo.pop()
        many += 1
        if many + len(todo) > most:
            raise TooMany()
        try:
            seen, steps = Reckoner(True, limit, says).run(program, look)
            found.append((sorted(number for number in said if said[number]), seen, steps))
        except Unsaid as unsaid:
            many -= 1
            todo += [{**said, unsaid.args[0]: True}, {**said, unsaid.args[0]: False}]
        except (Lost, Stuck):
            pass
    return sorted(found, key=lambda way: way[0])


def other_on(function, given, look, limit):
    return Reckoner(True, limit).run(function[2], look, {function[1]: ("part", (), given)})


def other_parts(function, given, look, limit):
    reckoner = Reckoner(True, limit)
    reckoner.run(function[2], look, {function[1]: ("part", (), given)})
    return sorted(reckoner.places)


def other_shop(shop, history, order, limit):
    """What run tells, and what ledger would tell of just these deeds in this order."""
    reckoner = Reckoner(True, limit)
    versions = {0: reckoner.begin((0,), shop[0], {})}
    at_start = set(reckoner.rows)
    answers = []
    for k in order:
        name_, version, n = history[k - 1]
        before = reckoner.steps()
        answer, versions[k] = reckoner.deed(k, dict(shop[1])[name_], versions[version], n)
        answers.append((answer, reckoner.steps() - before))
    deeds, numbers = [], []
    for number, steps, asked in reckoner.told_rows():
        if len(number) > 1:
            numbers.append((number, 0 if number in at_start else steps, asked))
        elif number != (0,):
            deeds.append((history[number[0] - 1][1], steps, asked))
    return answers, (deeds, numbers)


def other_run(shop, history, order, limit):
    return other_shop(shop, history, order, limit)[0]


def other_ledger(shop, history, limit):
    return other_shop(shop, history, range(1, len(history) + 1), limit)[1]


def other_past(book, k):
    return other_past(book, book[0][k - 1][0]) + [k] if k else []


def other_asks(book, k):
    """All that a deed asks, put together until nothing more comes."""
    rows = {number: asked for number, _, asked in book[1]}
    found, more = set(), set(book[0][k - 1][2])
    while not more <= found:
        found |= more
        more = {other for number in found for other in rows[number]}
    return sorted(found)


def other_spent(book, order):
    own = {number: steps for number, steps, _ in book[1]}
    done, spent = set(), []
    for k in order:
        new = set(other_asks(book, k)) - done
        done |= new
        spent.append(book[0][k - 1][1] + sum(own[number] for number in new))
    return spent


def other_lacking(book, plan):
    own = {number: steps for number, steps, _ in book[1]}
    found = []
    for k in range(1, len(book[0]) + 1):
        for number in other_asks(book, k):
            paid = sum(amount for j in other_past(book, k) for one, amount in plan[j - 1] if one == number)
            if paid < own[number]:
                found.append((k, number, paid, own[number]))
    return found


def other_late_plan(book):
    plan = []
    for k in range(1, len(book[0]) + 1):
        before, asked = other_past(book, k)[:-1], other_asks(book, k)
        pays = []
        for number, steps, _ in book[1]:
            lacks = steps - sum(amount for j in before for one, amount in plan[j - 1] if one == number)
            if number in asked and lacks > 0:
                pays.append((number, lacks))
        plan.append(pays)
    return plan


def other_prices(book, plan):
    return [deed[1] + sum(pair[1] for pair in pays) for deed, pays in zip(book[0], plan)]


def stood(name, history):
    """What each version of a queue or a counter has, by its number: a tuple of what stands, or a count."""
    versions = [() if name == "queue" else 0]
    for deed, version, n in history:
        elder = versions[version]
        if deed == "put":
            elder = (*elder, n)
        if deed == "take":
            elder = elder[1:]
        if deed == "more":
            elder += 1
        versions.append(elder)
    return versions


def shop_answers(name, history):
    """The answers of the queue or the counter, by an own reckoning."""
    answers, versions = [], stood(name, history)
    for deed, version, n in history:
        elder = versions[version]
        if deed == "put":
            answers.append(len(elder) + 1)
        elif deed == "more":
            answers.append(0)
        elif deed == "digit":
            answers.append(int(("0" * (n + 1) + bin(elder)[2:])[-1 - n]))
        else:
            answers.append(elder[0] if elder else -1)
    return answers


def most_price(name, history, k):
    """What a rule's price of a deed may be at most."""
    deed, version, n = history[k - 1]
    if deed != "digit":
        return 20
    count = stood(name, history)[version]
    return 8 * min(n, len(bin(count)) - 2 if count else 0) + 20


def other_written(thing):
    if isinstance(thing, tuple):
        return "(" + " ".join(other_written(part) for part in thing) + ")"
    return str(thing)


def other_seen_text(seen):
    if seen is None:
        return "-"
    if seen == ("fun",):
        return "fun"
    if isinstance(seen, int):
        return str(seen)
    return "(" + seen[0] + " (" + " ".join(other_seen_text(part) for part in seen[1]) + "))"


def loosely_read(text):
    """The tuple of a text, with whatever blanks, words and numbers; None where the brackets don't fit."""
    stack = [[]]
    for word in text.replace("(", " ( ").replace(")", " ) ").split(" "):
        if word == "(":
            if len(stack) > 200:
                return None
            stack.append([])
        elif word == ")":
            if len(stack) == 1:
                return None
            part = tuple(stack.pop())
            stack[-1].append(part)
        elif re.fullmatch(r"[a-z]{1,8}", word):
            stack[-1].append(word)
        elif re.fullmatch(r"-?[0-9]{1,19}", word):
            stack[-1].append(int(word))
            if abs(int(word)) > 10 ** 18:
                return None
        elif word:
            return None
    if len(stack) > 1 or len(stack[0]) != 1 or not isinstance(stack[0][0], tuple):
        return None
    return stack[0][0]


def is_text(text):
    thing = loosely_read(text)
    return thing is not None and other_written(thing) == text


def begins_text(signs):
    """Tell whether a text of a tuple begins with these signs, by trying how it could go on."""
    closing = ")" * (signs.count("(") - signs.count(")"))
    return signs == "" or any(is_text(signs + more + closing) for more in ("", "a", "1"))


def other_read(text):
    for at in range(len(text)):
        if not begins_text(text[:at + 1]):
            raise NoText(at)
    if not is_text(text):
        raise NoText(len(text))
    return loosely_read(text)


class Chance:
    """Programs, functions, shops, ledgers and plans by chance, always the same ones of a seed.

    Most programs don't stick.
    """

    SCOPE = {"one": "n", "ones": "l", "down": "f"}

    def __init__(self, seed):
        self.random = random.Random(seed)

    def program(self, depth=9):
        return self.within_scope(self.term(self.random.choice("nnnllllbf"), self.SCOPE, depth))

    def function(self, kind):
        """A function of an input of a kind."""
        scope = {**self.SCOPE, "x": kind, "y": kind}
        body = self.term(self.random.choice("nnnlllb"), scope, 8)
        if kind == "l" and self.random.random() < 0.7:
            inner = self.term(self.random.choice("nnnlllb"), {**scope, "x": "n", "y": "l"}, 6)
            body = pick("x", ("nil", (), num(0)), ("cons", ("x", "y"), inner))
        return ("fun", "x", self.within_scope(("let", "y", name("x"), body)))

    def given(self, kind, within=6):
        """An input of a kind, now and then with parts that nobody has."""
        if self.random.random() < 0.1:
            return None
        if kind == "n":
            return self.random.randrange(-3, 12)
        if within == 0 or self.random.random() < 0.2:
            return ("nil", ())
        return ("cons", (self.given("n"), self.given("l", within - 1)))

    def shop(self):
        """A shop the versions of which are lists."""
        deeds = tuple((word, self.deed()) for word in ("ab", "cd", "ef")[:self.random.randrange(1, 4)])
        return (self.within_scope(self.term("l", self.SCOPE, 5)), deeds)

    def deed(self):
        """It may ask what a version's head is, and what it tells of itself may be owed."""
        scope = {**self.SCOPE, "v": "l", "n": "n", "p": "n", "h": "n"}
        sort = self.random.choice(("let", "let", "let", "now"))
        word = "out" if self.random.random() < 0.98 else "in"
        answer = self.random.choice((name("p"), self.term(self.random.choice("nnlbf"), scope, 6)))
        behind = self.random.choice((name("v"), ("made", "cons", ("h", "v")), self.term("l", scope, 6)))
        head = pick("v", ("nil", (), num(0)), ("cons", ("a", "b"), name("a")))
        body = (sort, "q", answer, ("let", "r", behind, ("made", word, ("q", "r"))))
        body = lets([("h", ("call", "down", "n")), ("p", head)], body)
        return ("fun", "v", ("fun", "n", self.within_scope(body)))

    def history(self, shop, most=7):
        names = [deed[0] for deed in shop[1]]
        return [(self.random.choice(names), self.random.randrange(k), self.random.randrange(-2, 5))
                for k in range(1, self.random.randrange(most) + 1)]

    def own_history(self, shop_name, most=60):
        """A history of the queue or the counter; some are chains, some trees, some come again to few versions."""
        history, many = [], self.random.choice((3, 8, 20, most))
        chain, growing = self.random.random(), self.random.random()
        held = [self.random.randrange(many) for _ in range(3)]
        for k in range(1, many + 1):
            version = self.random.randrange(k)
            if self.random.random() < chain:
                version = k - 1
            elif self.random.random() < 0.5:
                version = min(self.random.choice(held), k - 1)
            grows = self.random.random() < growing
            if shop_name == "queue":
                deed = "put" if grows else self.random.choice(("take", "take", "first"))
                n = self.random.choice((0, 1, -1, 17, 10 ** 18, -10 ** 18))
            else:
                deed = "more" if grows else "digit"
                n = self.random.choice((0, 0, 1, 2, 3, 4, 5, 6, 7, 30, 60))
            history.append((deed, version, n))
        return history

    def ledger(self, most=8):
        """A ledger typed by hand: numbers may ask themselves, later ones, one another."""
        numbers = sorted({tuple(self.random.randrange(4) for _ in range(self.random.randrange(2, 5)))
                          for _ in range(self.random.randrange(9))})
        rows = [(number, self.random.choice((0, 1, 2, 3, 7, 10 ** 15)), self.some(numbers)) for number in numbers]
        deeds = [(self.random.randrange(k), self.random.choice((0, 2, 3, 10 ** 15)), self.some(numbers))
                 for k in range(1, self.random.randrange(most) + 1)]
        return deeds, rows

    def some(self, things):
        part = self.random.choice((0, 0.1, 0.3, 1))
        return [thing for thing in things if self.random.random() < part]

    def plan(self, book):
        """A plan near to the late one: some is paid twice, in parts, ahead, beside, or not at all."""
        plan = [[] for _ in book[0]]
        for k, pays in enumerate(other_late_plan(book), 1):
            for number, amount in pays:
                at = self.random.choice(other_past(book, k)) if self.random.random() < 0.3 else k
                part = self.random.choice((0, 0, 0, 1, amount // 2))
                plan[at - 1] += [(number, part), (number, amount - part)]
        for _ in range(self.random.randrange(3)):
            if plan:
                number = tuple(self.random.randrange(-1, 4) for _ in range(self.random.randrange(1, 4)))
                self.random.choice(plan).append((number, self.random.choice((0, 1, 10 ** 18))))
        paying = [pays for pays in plan if pays]
        if paying and self.random.random() < 0.5:
            pays = self.random.choice(paying)
            at = self.random.randrange(len(pays))
            pays[at] = (pays[at][0], max(0, pays[at][1] - 1))
        for pays in plan:
            self.random.shuffle(pays)
        return plan

    def thing(self, within=4):
        """A thing of words, numbers and tuples."""
        way = self.random.randrange(4 if within else 2)
        if way == 0:
            return self.random.choice(("a", "abcdefgh", "let", "fun", "none", "zz"))
        if way == 1:
            return self.random.choice((0, 1, -1, 10, -17, 305, 10 ** 18, -10 ** 18, 10 ** 18 - 1))
        return tuple(self.thing(within - 1) for _ in range(self.random.randrange(4)))

    def order(self, history, is_whole):
        """All deeds of a history, or some, each behind the one that made its version."""
        order, left = [], list(range(1, len(history) + 1))
        while left and (is_whole or self.random.random() < 0.8):
            free = [k for k in left if history[k - 1][1] in (0, *order)]
            order.append(self.random.choice(free))
            left.remove(order[-1])
        return order

    def within_scope(self, body):
        more = lets([("k", ("minus", "n", "one")), ("r", ("call", "down", "k"))], ("sum", "r", "n"))
        down = ("let", "t", ("less", "n", "one"), pick("t", ("yes", (), num(0)), ("no", (), more)))
        ones = ("made", "cons", ("one", "ones"))
        return lets([("one", num(1))], ("letall", (("ones", ones), ("down", ("fun", "n", down))), body))

    def look(self, within=3):
        if within and self.random.random() < 0.4:
            return tuple(self.look(within - 1) for _ in range(self.random.randrange(4)))
        return self.random.choice((None, 0, 1, 2, 3, 5))

    def with_name(self, kind, scope, depth, build):
        if self.random.random() < 0.03:
            kind = self.random.choice("nblf")
        names = sorted(x for x in scope if scope[x] == kind)
        if names and self.random.random() < 0.6:
            return build(self.random.choice(names), scope)
        x = self.random.choice("abcdefgh")
        sort = "now" if self.random.random() < 0.3 else "let"
        return (sort, x, self.term(kind, scope, depth - 1), build(x, {**scope, x: kind}))

    def leaf(self, kind):
        if kind == "n":
            return num(self.random.randrange(-3, 12))
        if kind == "b":
            return ("made", self.random.choice(("yes", "no")), ())
        if kind == "l":
            return ("made", "nil", ())
        return ("fun", "x", name("x"))

    def term(self, kind, scope, depth):
        if depth <= 0:
            return self.leaf(kind)
        way = self.random.randrange(6)
        if way == 0:
            return self.with_name(kind, scope, depth, lambda x, _: name(x))
        if way == 1:
            return self.with_name("b", scope, depth, lambda x, inner: pick(
                x, *[(word, (), self.term(kind, inner, depth - 2)) for word in ("yes", "no")]))
        if way == 2:
            return self.with_name("l", scope, depth, lambda x, inner: pick(
                x, ("nil", (), self.term(kind, inner, depth - 2)),
                ("cons", ("a", "b"), self.term(kind, {**inner, "a": "n", "b": "l"}, depth - 2))))
        if way == 3 and kind in "nb":
            sorts = ("sum", "minus") if kind == "n" else ("less", "same")
            sort = self.random.choice(sorts)
            return self.with_name("n", scope, depth, lambda x, inner: self.with_name(
                "n", inner, depth - 1, lambda y, _: (sort, x, y)))
        return self.of_kind(kind, scope, depth)

    def of_kind(self, kind, scope, depth):
        if kind == "n":
            return self.with_name("f", scope, depth, lambda f, inner: self.with_name(
                "n", {**inner, f: "f"}, depth - 1, lambda x, _: ("call", f, x)))
        if kind == "l":
            return self.with_name("n", scope, depth, lambda x, inner: self.with_name(
                "l", inner, depth - 1, lambda y, _: ("made", "cons", (x, y))))
        if kind == "f":
            x = self.random.choice("abcdefgh")
            return ("fun", x, self.term("n", {**scope, x: "n"}, depth - 1))
        return self.leaf(kind)
