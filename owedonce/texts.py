"""Texts: how things, and what is seen, are written, and how the text of a tuple is read."""

from owedonce.errors import NoText
from owedonce.terms import LEAST_NUMBER, MOST_LETTERS, MOST_NUMBER

MOST_OPEN = 200


def _word_of_thing(thing):
    """The signs of a word or a number; None of a tuple, which is written part by part."""
    if isinstance(thing, tuple):
        return None
    return thing if isinstance(thing, str) else str(thing)


def _word_of_seen(seen):
    """Likewise of what is seen, where None and a fun have signs of their own."""
    if seen is None:
        return "-"
    return "fun" if seen == ("fun",) else _word_of_thing(seen)


def _written_by(word_of, thing):
    """The text of a thing, word_of telling the signs of what isn't written part by part.

    What is still to be written waits in a list, so that no call of Python's stands open
    for what stands within one another.
    """
    signs = []
    todo = [(False, thing)]
    while todo:
        is_sign, part = todo.pop()
        word = part if is_sign else word_of(part)
        if word is not None:
            signs.append(word)
            continue
        signs.append("(")
        todo.append((True, ")"))
        for at in reversed(range(len(part))):
            todo.append((False, part[at]))
            if at > 0:
                todo.append((True, " "))
    return "".join(signs)


def written(thing):
    """The text of a thing of words, whole numbers and tuples."""
    return _written_by(_word_of_thing, thing)


def seen_text(seen):
    """The text of what is seen: None as -, a fun as fun."""
    return _written_by(_word_of_seen, seen)


def _sign_at(text, at):
    """The sign of a number, or none behind the last."""
    return text[at:at + 1]


def _is_letter(sign):
    return "a" <= sign <= "z"


def _is_figure(sign):
    return "0" <= sign <= "9"


def _read_word(text, at):
    """The word that begins at a sign, and where it ends; a letter too many is left there."""
    end = at
    while _is_letter(_sign_at(text, end)) and end - at < MOST_LETTERS:
        end += 1
    return (text[at:end], end)


def _read_number(text, at):
    """The number that begins at a sign, and where it ends; a figure that it can't have is left there."""
    end = at
    times = 1
    if _sign_at(text, at) == "-":
        end += 1
        times = -1
        if _sign_at(text, end) == "0":
            raise NoText(end)
    if not _is_figure(_sign_at(text, end)):
        raise NoText(end)
    number = 0
    begins = end
    while _is_figure(_sign_at(text, end)) and (number != 0 or end == begins):
        more = number * 10 + times * int(_sign_at(text, end))
        if not LEAST_NUMBER <= more <= MOST_NUMBER:
            break
        number = more
        end += 1
    return (number, end)


def _read_part(text, at):
    """The word or the number that begins at a sign, and where it ends."""
    if _is_letter(_sign_at(text, at)):
        return _read_word(text, at)
    return _read_number(text, at)


def _close(text, at, opened):
    """Close the tuples whose brackets close at a sign; told are the outmost, or None, and where they end."""
    while _sign_at(text, at) == ")":
        at += 1
        part = tuple(opened.pop())
        if not opened:
            return (part, at)
        opened[-1].append(part)
    return (None, at)


def read(text):
    """The tuple of a text; refused with NoText, at the first sign with which no text of a tuple begins."""
    opened = []
    whole = None
    at = 0
    while whole is None:
        if _sign_at(text, at) == "(" and len(opened) < MOST_OPEN:
            opened.append([])
            at += 1
            if _sign_at(text, at) != ")":
                continue
        elif opened:
            part, at = _read_part(text, at)
            opened[-1].append(part)
        else:
            raise NoText(at)
        whole, at = _close(text, at, opened)
        if whole is None:
            if _sign_at(text, at) != " ":
                raise NoText(at)
            at += 1
    if at < len(text):
        raise NoText(at)
    return whole
