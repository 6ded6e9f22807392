"""Seers: each let that comes up is reckoned at once, or thrown away for good."""

from owedonce.errors import Lost, Stuck, TooMany
from owedonce.goings import LIMIT, Store
from owedonce.looks import look_at

MOST_WAYS = 300


class Listed:
    """A seer that has a list of numbers."""

    def __init__(self, numbers):
        self.numbers = {number: True for number in numbers}

    def says(self, number):
        return number in self.numbers


class Ways:
    """A seer that chooses each way once, one way a run.

    A way is the list of what is said, in the order in which the lets come up; what
    isn't said yet is said to be at once.
    """

    def __init__(self, most):
        self.most = most
        self.many = 0
        self.way = []
        self.said = 0
        self.numbers = []
        self.count_way()

    def count_way(self):
        """One more way. All are counted where they part, so that endless ones are left in time."""
        if self.many >= self.most:
            raise TooMany()
        self.many += 1

    def says(self, number):
        if self.said == len(self.way):
            self.count_way()
            self.way.append(True)
        at_once = self.way[self.said]
        self.said += 1
        if at_once:
            self.numbers.append(number)
        return at_once

    def go_on(self):
        """Turn to the next way; told is whether there is one."""
        while self.way and not self.way[-1]:
            self.way.pop()
        if not self.way:
            return False
        self.way[-1] = False
        self.said = 0
        self.numbers = []
        return True


def _run_by(chooser, program, look, limit):
    """What is seen by a seer, and the store of its run."""
    store = Store(limit, True, chooser)
    seen = look_at(store, program, look)
    return (seen, store)


def seer(program, numbers, look, *, limit=LIMIT):
    """What is seen, and the steps, by the seer of these numbers; refused with Lost, Stuck, TooMany."""
    seen, store = _run_by(Listed(numbers), program, look, limit)
    return (seen, store.steps)


def seer_rows(program, numbers, look, *, limit=LIMIT):
    """The rising list of (number, own steps, asked) of all goings that this seer goes into."""
    _, store = _run_by(Listed(numbers), program, look, limit)
    return store.rows()


def least(program, look, *, limit=LIMIT):
    """The numbers of the lets that the late run goes into, and its steps."""
    store = Store(limit, True)
    look_at(store, program, look)
    return (store.let_numbers(), store.steps)


def _add_run(found, ways, program, look, limit):
    """Run one way; what it tells stands behind what was found, unless it is lost or stuck."""
    try:
        seen, store = _run_by(ways, program, look, limit)
    except (Lost, Stuck):
        return
    found.append((sorted(ways.numbers), seen, store.steps))


def all_seers(program, look, *, most=MOST_WAYS, limit=LIMIT):
    """(numbers, seen, steps) of each way to choose that isn't refused; TooMany, where one run is, or of ways."""
    ways = Ways(most)
    found = []
    _add_run(found, ways, program, look, limit)
    while ways.go_on():
        _add_run(found, ways, program, look, limit)
    return found
