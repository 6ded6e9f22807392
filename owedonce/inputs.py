"""Inputs: a function is run late with an input, of which just the parts that are asked are needed."""

from owedonce.goings import LIMIT, Made, Store, bound, ready
from owedonce.looks import look_at


def _part(place):
    """A part of an input that nobody has, so far."""
    cell = ready(None)
    cell.place = place
    return cell


def _stands_ready(given):
    """The cell of an input, whose parts stand ready in cells of their own."""
    whole = _part(())
    todo = [(whole, given)]
    while todo:
        cell, thing = todo.pop()
        if not isinstance(thing, tuple):
            cell.worth = thing
            continue
        word, things = thing
        parts = [_part(cell.place + (at,)) for at in range(len(things))]
        cell.worth = Made(word, parts)
        for pair in zip(parts, things):
            todo.append(pair)
    return whole


def _run_with(store, function, given, look):
    """What is seen of a function with an input."""
    env = bound(None, function[1], _stands_ready(given))
    return look_at(store, function[2], look, env)


def on(function, given, look, *, limit=LIMIT):
    """What is seen of a function with an input, and the steps; refused with Missing, Stuck, TooMany."""
    store = Store(limit, True)
    seen = _run_with(store, function, given, look)
    return (seen, store.steps)


def parts_asked(function, given, look, *, limit=LIMIT):
    """The rising list of the places of an input that are asked, by goings or by the look."""
    store = Store(limit, True)
    _run_with(store, function, given, look)
    return sorted(store.places)
