"""Surely: the names that a term asks whatever comes, and lets made now by that."""

from owedonce.terms import within


def _joined(names, more):
    return names + [name for name in more if name not in names]


def _without(names, own):
    return [name for name in names if name not in own]


def _by_asks(term, inner):
    """Its own name, and what each branch asks that doesn't bind it."""
    common = None
    for branch, names in zip(term[2], inner):
        free = _without(names, branch[1])
        common = free if common is None else [name for name in common if name in free]
    return _joined([term[1]], common)


def _put_by_asks(term, inner):
    """What follows asks, and what is put by, where it is reckoned surely."""
    first, then = inner
    rest = _without(then, term[1:2])
    if term[0] == "let" and term[1] not in then:
        return rest
    return _joined(rest, first)


def _asks(term, inner):
    """The names that a term surely asks; inner are those of its terms, in their order."""
    sort = term[0]
    if sort in ("num", "fun", "made"):
        return []
    if sort in ("name", "call"):
        return [term[1]]
    if sort == "by":
        return _by_asks(term, inner)
    if sort in ("let", "now"):
        return _put_by_asks(term, inner)
    if sort == "letall":
        return _without(inner[-1], [pair[0] for pair in term[1]])
    return _joined([term[1]], [term[2]])


def _put_by_moved(term, terms, inner):
    sort = "now" if term[1] in inner[1] else term[0]
    return (sort, term[1], terms[0], terms[1])


def _moved_of(term, terms, inner):
    """A term moved; terms are its terms moved, inner what they surely ask."""
    sort = term[0]
    if sort == "fun":
        return ("fun", term[1], terms[0])
    if sort in ("let", "now"):
        return _put_by_moved(term, terms, inner)
    if sort == "letall":
        pairs = [(pair[0], worth) for pair, worth in zip(term[1], terms)]
        return ("letall", tuple(pairs), terms[-1])
    if sort == "by":
        branches = [(branch[0], branch[1], body) for branch, body in zip(term[2], terms)]
        return ("by", term[1], tuple(branches))
    return term


def _gone_through(term):
    """What a term surely asks, and the term moved.

    The terms of a term are done ahead of it and wait in a list, so that no call of
    Python's stands open meanwhile.
    """
    todo = [(term, False)]
    done = []
    while todo:
        part, is_ready = todo.pop()
        parts = [one for one, _ in within(part)]
        if not is_ready:
            todo.append((part, True))
            todo.extend([(one, False) for one in reversed(parts)])
            continue
        ahead = done[len(done) - len(parts):]
        del done[len(done) - len(parts):]
        inner = [names for names, _ in ahead]
        terms = [one for _, one in ahead]
        done.append((_asks(part, inner), _moved_of(part, terms, inner)))
    return done[0]


def surely(term):
    """The names that a term surely asks, each once, rising."""
    names, _ = _gone_through(term)
    return sorted(names)


def moved(term):
    """The term with now in the place of each let of which what follows surely asks its name."""
    _, one = _gone_through(term)
    return one
