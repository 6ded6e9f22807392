"""Shops: deeds are done on versions, in branches, and what isn't reckoned yet is owed."""

from owedonce.errors import Stuck
from owedonce.goings import Made, Store, ask_cell, call, do_all, enter, ready
from owedonce.looks import seen_head

SHOP_LIMIT = 100000


def _started(shop, limit):
    """A store in which the start was gone into; its worth is the one that came last."""
    store = Store(limit, True)
    store.todo.append((enter, (store.begin((0,)), shop[0], None)))
    do_all(store)
    # The steps that are done with the start are nobody's.
    for going in store.goings:
        going.steps = 0
    return store


def _worth_asked(store, going, cell):
    ask_cell(store, going, cell)
    do_all(store)
    return store.worth


def _do_deed(store, going, program, version, n):
    """Do a deed on the worth of a version; told are what is seen of its answer, and its own version's worth."""
    store.todo.append((call, (going, ready(n))))
    store.todo.append((call, (going, ready(version))))
    store.todo.append((enter, (going, program, None)))
    do_all(store)
    out = store.worth
    if not isinstance(out, Made) or out.word != "out" or len(out.parts) != 2:
        raise Stuck(going.number)
    answer = seen_head(_worth_asked(store, going, out.parts[0]))
    return (answer, _worth_asked(store, going, out.parts[1]))


def _do_all_deeds(store, shop, history, order):
    """Do the deeds of an order in a store; told is (answer, steps) of each."""
    programs = {name: program for name, program in shop[1]}
    versions = {0: store.worth}
    answers = []
    for k in order:
        name, version, n = history[k - 1]
        before = store.steps
        answer, versions[k] = _do_deed(store, store.begin((k,)), programs[name], versions[version], n)
        answers.append((answer, store.steps - before))
    return answers


def _by_numbers(history):
    return list(range(1, len(history) + 1))


def run(shop, history, *, order=None, limit=SHOP_LIMIT):
    """(answer, steps) of each deed of an order, or of all by their numbers; refused with Stuck, TooMany."""
    store = _started(shop, limit)
    return _do_all_deeds(store, shop, history, _by_numbers(history) if order is None else order)


def ledger(shop, history, *, limit=SHOP_LIMIT):
    """(deeds, numbers): (version, own steps, asked) of each deed, and the rows of all that was put by and gone into."""
    store = _started(shop, limit)
    _do_all_deeds(store, shop, history, _by_numbers(history))
    own = [row for row in store.rows() if len(row[0]) == 1 and row[0] != (0,)]
    deeds = [(deed[1], steps, asked) for deed, (_, steps, asked) in zip(history, own)]
    return (deeds, [row for row in store.rows() if len(row[0]) > 1])
