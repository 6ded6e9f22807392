"""Late: a reckoning is gone into when it is first asked, and its worth kept."""

from owedonce.goings import LIMIT, Store
from owedonce.looks import look_at


def late(program, look, *, limit=LIMIT):
    """What is seen of a program by a look, and the steps; refused with Stuck, TooMany."""
    store = Store(limit, True)
    seen = look_at(store, program, look)
    return (seen, store.steps)


def rows(program, look, *, limit=LIMIT):
    """The rising list of (number, own steps, asked) of all goings that were gone into."""
    store = Store(limit, True)
    look_at(store, program, look)
    return store.rows()
