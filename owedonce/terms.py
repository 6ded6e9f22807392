"""Terms: what names, terms and programs are, and which names are free."""

MOST_LETTERS = 8
MOST_PIECES = 300
MOST_WITHIN = 60
MOST_BESIDE = 6
MOST_PARTS = 3
LEAST_NUMBER = -10 ** 18
MOST_NUMBER = 10 ** 18


def is_name(thing):
    """Tell whether thing, whatever it is, is a name; words of made things are alike."""
    if not isinstance(thing, str) or not 1 <= len(thing) <= MOST_LETTERS:
        return False
    return all("a" <= letter <= "z" for letter in thing)


def _is_tuple(thing, least, most):
    return isinstance(thing, tuple) and least <= len(thing) <= most


def _are_names(thing):
    return _is_tuple(thing, 0, MOST_PARTS) and all(is_name(name) for name in thing)


def _are_unlike(names):
    return len(set(names)) == len(names)


def _is_num(term):
    if len(term) != 2 or isinstance(term[1], bool) or not isinstance(term[1], int):
        return False
    return LEAST_NUMBER <= term[1] <= MOST_NUMBER


def _is_asking(term):
    return len(term) == 2 and is_name(term[1])


def _is_fun(term):
    return len(term) == 3 and is_name(term[1])


def _is_of_two_names(term):
    return len(term) == 3 and is_name(term[1]) and is_name(term[2])


def _is_put_by(term):
    return len(term) == 4 and is_name(term[1])


def _is_pair(thing):
    if not _is_tuple(thing, 2, 2) or not is_name(thing[0]):
        return False
    worth = thing[1]
    if not isinstance(worth, tuple) or len(worth) == 0 or not isinstance(worth[0], str):
        return False
    return worth[0] in ("fun", "made")


def _is_letall(term):
    if len(term) != 3 or not _is_tuple(term[1], 1, MOST_BESIDE):
        return False
    return all(_is_pair(pair) for pair in term[1]) and _are_unlike([pair[0] for pair in term[1]])


def _is_made(term):
    return len(term) == 3 and is_name(term[1]) and _are_names(term[2])


def _is_branch(thing):
    if not _is_tuple(thing, 3, 3) or not is_name(thing[0]):
        return False
    return _are_names(thing[1]) and _are_unlike(thing[1])


def _is_by(term):
    if len(term) != 3 or not is_name(term[1]) or not _is_tuple(term[2], 1, MOST_BESIDE):
        return False
    return all(_is_branch(branch) for branch in term[2]) and _are_unlike([branch[0] for branch in term[2]])


SORTS = {
    "num": _is_num,
    "name": _is_asking,
    "fun": _is_fun,
    "call": _is_of_two_names,
    "let": _is_put_by,
    "now": _is_put_by,
    "letall": _is_letall,
    "made": _is_made,
    "by": _is_by,
    "sum": _is_of_two_names,
    "minus": _is_of_two_names,
    "less": _is_of_two_names,
    "same": _is_of_two_names,
}


def _is_shaped(thing):
    """Tell whether thing is as a term must be, but for the terms in it."""
    # Only a text is looked up: what else may stand there can be endless to hash.
    if not isinstance(thing, tuple) or len(thing) == 0 or not isinstance(thing[0], str):
        return False
    if thing[0] not in SORTS:
        return False
    fits = SORTS[thing[0]]
    return fits(thing)


def named(term):
    """The names that a term has itself, none of those that it binds or its terms have."""
    sort = term[0]
    if sort == "made":
        return term[2]
    if sort in ("name", "by"):
        return term[1:2]
    if sort in ("call", "sum", "minus", "less", "same"):
        return term[1:3]
    return ()


def within(term):
    """The terms of a term, each with the names that are bound in it there."""
    sort = term[0]
    if sort == "fun":
        return [(term[2], (term[1],))]
    if sort in ("let", "now"):
        return [(term[2], ()), (term[3], (term[1],))]
    if sort == "letall":
        names = tuple([pair[0] for pair in term[1]])
        return [(pair[1], names) for pair in term[1]] + [(term[2], names)]
    if sort == "by":
        return [(branch[2], branch[1]) for branch in term[2]]
    return []


def is_term(thing):
    """Tell whether thing, whatever it is, is a term."""
    todo = [(thing, 1)]
    pieces = 0
    # Pieces are counted as they are met, so what is endless is left in time.
    while todo:
        part, depth = todo.pop()
        pieces += 1
        if pieces > MOST_PIECES or depth > MOST_WITHIN or not _is_shaped(part):
            return False
        for inner, _ in within(part):
            todo.append((inner, depth + 1))
    return True


def free_names(term):
    """The names that are free in a term, each once, rising."""
    found = {}
    todo = [(term, ())]
    while todo:
        part, bound = todo.pop()
        for name in named(part):
            if name not in bound:
                found[name] = True
        for inner, names in within(part):
            todo.append((inner, bound + names))
    return sorted(found)


def is_program(thing):
    """Tell whether thing, whatever it is, is a program: a term without free names."""
    return is_term(thing) and len(free_names(thing)) == 0
