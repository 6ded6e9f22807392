"""Goings: how terms are gone into, piece by piece.

What is still to be done waits in a list of the store, as pairs of a function and
what it is told, the last first. So askings may stand within one another however far:
no call of Python's stands open meanwhile.
"""

from owedonce.errors import Lost, Missing, Stuck, TooMany

LIMIT = 20000
MOST_NUMBER_PARTS = 100
TOO_FAR = 10 ** 60


class Fun:
    """The worth of a fun: its name, its term, and what the names in that stand for."""

    def __init__(self, name, term, env):
        self.name = name
        self.term = term
        self.env = env


class Made:
    """The worth of a made thing: its word and the cells of its parts."""

    def __init__(self, word, parts):
        self.word = word
        self.parts = parts


class Cell:
    """What a name stands for: a reckoning put by, its worth, or both.

    What stands as it is, without a reckoning, has None as its number. A part of an
    input has a place; all else has None there.
    """

    def __init__(self, number, term, env):
        self.number = number
        self.term = term
        self.env = env
        self.worth = None
        self.place = None

    def throw_away(self):
        self.term = None
        self.env = None


class Going:
    """One going: its number, how many lets came up in it, and its row so far."""

    def __init__(self, number):
        self.number = number
        self.lets = 0
        self.steps = 0
        self.asked = {}


class Store:
    """All that one run has: its pieces and steps, its goings, what is still to be done.

    It keeps the worth of a reckoning (late), or it doesn't (plainly). The worth is the
    one that came last. A seer, where there is one, says of each let that comes up whether
    it is reckoned at once.
    """

    def __init__(self, limit, keeps, seer=None):
        self.limit = limit
        self.keeps = keeps
        self.seer = seer
        self.pieces = 0
        self.steps = 0
        self.goings = []
        self.nows = {}
        self.places = {}
        self.todo = []
        self.worth = None

    def count_piece(self):
        if self.pieces >= self.limit:
            raise TooMany()
        self.pieces += 1

    def begin(self, number):
        """A new going; only one whose worth is kept has a row, for it is gone into once."""
        going = Going(number)
        if self.keeps:
            self.goings.append(going)
        return going

    def let_numbers(self):
        """The numbers of the lets, no nows, that were gone into, rising."""
        numbers = [going.number for going in self.goings if going.number != ()]
        return sorted([number for number in numbers if number not in self.nows])

    def rows(self):
        return sorted([(going.number, going.steps, sorted(going.asked)) for going in self.goings])


def bound(env, name, cell):
    """The names of env, and one more, nearer than all of these."""
    return (name, cell, env)


def stands_for(env, name):
    """The cell of the nearest binding of name."""
    while env[0] != name:
        env = env[2]
    return env[1]


def ready(worth):
    """A cell of what stands as it is."""
    cell = Cell(None, None, None)
    cell.worth = worth
    return cell


def put_by(going, term, env):
    """The cell of a let or now that comes up in a going."""
    if len(going.number) >= MOST_NUMBER_PARTS:
        raise TooMany()
    going.lets += 1
    return Cell(going.number + (going.lets,), term, env)


def demand(store, cell):
    """Have the worth of a cell: gone into, where it isn't ready."""
    if cell.place is not None:
        store.places[cell.place] = True
    if cell.worth is not None:
        store.worth = cell.worth
        return
    if cell.place is not None:
        raise Missing(cell.place)
    if cell.term is None:
        raise Lost(cell.number)
    if store.keeps:
        store.todo.append((_keep, (cell,)))
    store.todo.append((enter, (store.begin(cell.number), cell.term, cell.env)))


def _keep(store, cell):
    cell.worth = store.worth


def ask_cell(store, going, cell):
    """What a name stands for, or a part, is asked by a going."""
    store.count_piece()
    if cell.number is not None:
        going.asked[cell.number] = True
    demand(store, cell)


def ask(store, going, env, name):
    """A name is asked by a going."""
    ask_cell(store, going, stands_for(env, name))


def worth_of(term, env):
    """The worth of a fun or a made term, with what its names stand for."""
    if term[0] == "fun":
        return Fun(term[1], term[2], env)
    return Made(term[1], [stands_for(env, name) for name in term[2]])


def _enter_num(store, going, term, env):
    store.worth = term[1]


def _enter_worth(store, going, term, env):
    store.worth = worth_of(term, env)


def _enter_name(store, going, term, env):
    ask(store, going, env, term[1])


def _enter_call(store, going, term, env):
    store.todo.append((call, (going, stands_for(env, term[2]))))
    ask(store, going, env, term[1])


def call(store, going, cell):
    """The worth that came is called, its name standing for what the cell has."""
    called = store.worth
    if not isinstance(called, Fun):
        raise Stuck(going.number)
    store.steps += 1
    going.steps += 1
    store.todo.append((enter, (going, called.term, bound(called.env, called.name, cell))))


def _enter_let(store, going, term, env):
    cell = put_by(going, term[2], env)
    store.todo.append((enter, (going, term[3], bound(env, term[1], cell))))
    if store.seer is not None:
        _see_to(store, cell)


def _see_to(store, cell):
    """What a seer says of a let is done: no asking, so no piece, and in no row."""
    if store.seer.says(cell.number):
        demand(store, cell)
    else:
        cell.throw_away()


def _enter_now(store, going, term, env):
    cell = put_by(going, term[2], env)
    # It is in the row of the going like what is asked, though it is no asking: no piece.
    going.asked[cell.number] = True
    store.nows[cell.number] = True
    store.todo.append((enter, (going, term[3], bound(env, term[1], cell))))
    demand(store, cell)


def _enter_letall(store, going, term, env):
    cells = []
    for name, _ in term[1]:
        cell = ready(None)
        cells.append(cell)
        env = bound(env, name, cell)
    for cell, pair in zip(cells, term[1]):
        cell.worth = worth_of(pair[1], env)
    store.todo.append((enter, (going, term[2], env)))


def _enter_by(store, going, term, env):
    store.todo.append((_choose, (going, term[2], env)))
    ask(store, going, env, term[1])


def _branch_for(worth, branches):
    """The branch of a made thing's word and of as many names as it has parts, or None."""
    if not isinstance(worth, Made):
        return None
    for branch in branches:
        if branch[0] == worth.word and len(branch[1]) == len(worth.parts):
            return branch
    return None


def _choose(store, going, branches, env):
    branch = _branch_for(store.worth, branches)
    if branch is None:
        raise Stuck(going.number)
    for name, part in zip(branch[1], store.worth.parts):
        env = bound(env, name, part)
    store.todo.append((enter, (going, branch[2], env)))


def _number_told(store, going):
    if not isinstance(store.worth, int):
        raise Stuck(going.number)
    return store.worth


def _enter_two(store, going, term, env):
    store.todo.append((_ask_second, (going, term, env)))
    ask(store, going, env, term[1])


def _ask_second(store, going, term, env):
    store.todo.append((_reckon_two, (going, term[0], _number_told(store, going))))
    ask(store, going, env, term[2])


def _reckon_two(store, going, sort, first):
    second = _number_told(store, going)
    if sort in ("less", "same"):
        holds = first < second if sort == "less" else first == second
        store.worth = Made("yes" if holds else "no", [])
        return
    store.worth = first + second if sort == "sum" else first - second
    if abs(store.worth) >= TOO_FAR:
        raise TooMany()


ENTERINGS = {
    "num": _enter_num,
    "name": _enter_name,
    "fun": _enter_worth,
    "call": _enter_call,
    "let": _enter_let,
    "now": _enter_now,
    "letall": _enter_letall,
    "made": _enter_worth,
    "by": _enter_by,
    "sum": _enter_two,
    "minus": _enter_two,
    "less": _enter_two,
    "same": _enter_two,
}


def enter(store, going, term, env):
    """A term is gone into."""
    store.count_piece()
    action = ENTERINGS[term[0]]
    action(store, going, term, env)


def do_all(store):
    """Do what is still to be done, until nothing is."""
    while store.todo:
        action, told = store.todo.pop()
        action(store, *told)
