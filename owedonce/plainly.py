"""Plainly: a reckoning that is asked is gone into anew each time."""

from owedonce.goings import LIMIT, Store
from owedonce.looks import look_at


def plain(program, look, *, limit=LIMIT):
    """What is seen of a program by a look, and the steps; refused with Stuck, TooMany."""
    store = Store(limit, False)
    seen = look_at(store, program, look)
    return (seen, store.steps)
