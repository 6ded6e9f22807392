"""A desk: programs are kept by names and one history is done, row by row."""

from owedonce.errors import NoDeed, NoKept, NoProgram, NoRow, NoText, TooMany
from owedonce.late import late
from owedonce.plainly import plain
from owedonce.plans import late_plan, prices
from owedonce.seers import least
from owedonce.shops import ledger, run
from owedonce.surely import moved
from owedonce.terms import is_name, is_program
from owedonce.texts import read, seen_text, written
from owedonce.twoshops import rule, shop

MOST_DEEDS = 60
MOST_LOOK = 60
MOST_DIGIT = 60


def _name_of(word):
    """The name that a word of a row is; like all of these None, where it is none."""
    return word if is_name(word) else None


def _text_of(word):
    return word


def _shop_of(word):
    return word if word in ("queue", "counter") else None


def _number_of(word):
    try:
        things = read("(" + word + ")")
    except NoText:
        return None
    if len(things) != 1 or not isinstance(things[0], int):
        return None
    return things[0]


def _look_of(word):
    look = _number_of(word)
    return look if look is not None and 0 <= look <= MOST_LOOK else None


def _joined(words):
    return " ".join(words) if words else "none"


def _with_steps(text, steps):
    return f"{text} {steps}"


def _keep(desk, name, text):
    program = read(text)
    if not is_program(program):
        raise NoProgram()
    desk.kept[name] = program
    return "ok"


def _names(desk):
    return _joined(sorted(desk.kept))


def _show(desk, name):
    return written(desk.program(name))


def _late(desk, name, look):
    seen, steps = late(desk.program(name), look)
    return _with_steps(seen_text(seen), steps)


def _plain(desk, name, look):
    seen, steps = plain(desk.program(name), look)
    return _with_steps(seen_text(seen), steps)


def _least(desk, name, look):
    numbers, steps = least(desk.program(name), look)
    return _with_steps(_joined([".".join([str(part) for part in number]) for number in numbers]), steps)


def _move(desk, name, other):
    desk.kept[other] = moved(desk.program(name))
    return "ok"


def _begin(desk, name):
    desk.shop_name = name
    desk.history = []
    return "ok"


def _is_of_shop(desk, deed, version, n):
    """Tell whether the desk's shop has such a deed, its history such a version, and the deed such an n."""
    if deed not in [pair[0] for pair in shop(desk.shop_name)[1]]:
        return False
    return 0 <= version <= len(desk.history) and (deed != "digit" or 0 <= n <= MOST_DIGIT)


def _do(desk, deed, version, n):
    """Do a deed; told is None, and nothing done, where it is none of the shop."""
    if not _is_of_shop(desk, deed, version, n):
        return None
    if len(desk.history) >= MOST_DEEDS:
        raise TooMany()
    history = desk.history + [(deed, version, n)]
    answer, steps = run(shop(desk.shop_name), history)[-1]
    desk.history = history
    return _with_steps(seen_text(answer), steps)


def _back(desk):
    if not desk.history:
        raise NoDeed()
    desk.history = desk.history[:-1]
    return "ok"


def _ledger_of(desk):
    return ledger(shop(desk.shop_name), desk.history)


def _prices(desk):
    told = _ledger_of(desk)
    return _joined([str(price) for price in prices(told, late_plan(told))])


def _rule(desk):
    plan = rule(desk.shop_name, desk.history)
    return _joined([str(price) for price in prices(_ledger_of(desk), plan)])


def _steps(desk):
    return str(sum([steps for _, steps in run(shop(desk.shop_name), desk.history)]))


# By its first word: what a row does, and how the words behind that are read.
ROWS = {
    "keep": (_keep, (_name_of, _text_of)),
    "names": (_names, ()),
    "show": (_show, (_name_of,)),
    "late": (_late, (_name_of, _look_of)),
    "plain": (_plain, (_name_of, _look_of)),
    "least": (_least, (_name_of, _look_of)),
    "move": (_move, (_name_of, _name_of)),
    "open": (_begin, (_shop_of,)),
    "do": (_do, (_text_of, _number_of, _number_of)),
    "back": (_back, ()),
    "prices": (_prices, ()),
    "rule": (_rule, ()),
    "steps": (_steps, ()),
}


def _things_of(row, readers):
    """What the words behind the first of a row stand for, or None where it is no row by them."""
    words = row.split(" ")
    if words[0] == "keep":
        # Its text is one word or more.
        words = row.split(" ", 2)
    if len(words) - 1 != len(readers):
        return None
    things = []
    for word, reader in zip(words[1:], readers):
        things.append(reader(word))
    return None if None in things else things


class Desk:
    """Programs by names, and one history of a shop."""

    def __init__(self):
        self.kept = {}
        self.shop_name = "queue"
        self.history = []

    def program(self, name):
        """What is kept under a name; refused with NoKept."""
        if name not in self.kept:
            raise NoKept(name)
        return self.kept[name]

    def say(self, row):
        """The answer to a row; refused with NoRow, NoText, NoProgram, NoKept, and what its points tell."""
        word = row.split(" ")[0]
        if word not in ROWS:
            raise NoRow(row)
        action, readers = ROWS[word]
        things = _things_of(row, readers)
        answer = None if things is None else action(self, *things)
        if answer is None:
            raise NoRow(row)
        return answer
