"""Looks: what is seen of a program's worth, the head first, then the parts."""

from owedonce.goings import Fun, Made, demand, do_all, enter


def seen_head(worth):
    """What is seen of a worth where none of its parts is looked at."""
    if isinstance(worth, Fun):
        return ("fun",)
    if isinstance(worth, Made):
        return (worth.word, tuple([None for _ in worth.parts]))
    return worth


def _is_none(look):
    return look is None or (isinstance(look, int) and look <= 0)


def _part_look(look, at):
    """The look at the part of a number, by the look at the whole."""
    if isinstance(look, int):
        return look - 1
    return look[at] if at < len(look) else None


def _see(store, look, seen):
    """The worth that came is seen: put behind the list seen, perhaps after its parts."""
    worth = store.worth
    if not isinstance(worth, Made):
        seen.append(seen_head(worth))
        return
    parts = []
    store.todo.append((_see_made, (worth.word, parts, seen)))
    for at in reversed(range(len(worth.parts))):
        store.todo.append((_see_part, (worth.parts[at], _part_look(look, at), parts)))


def _see_made(store, word, parts, seen):
    seen.append((word, tuple(parts)))


def _see_part(store, cell, look, seen):
    if _is_none(look):
        seen.append(None)
        return
    # A part that a look asks is a piece, but no going asks it: it is in no row.
    store.count_piece()
    store.todo.append((_see, (look, seen)))
    demand(store, cell)


def look_at(store, term, look, env=None):
    """Go into a term, as the going (), as far as a look asks; told is what is seen."""
    if _is_none(look):
        return None
    seen = []
    store.todo.append((_see, (look, seen)))
    store.todo.append((enter, (store.begin(()), term, env)))
    do_all(store)
    return seen[0]
