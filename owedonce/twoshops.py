"""Two shops, a queue and a counter, and the rule by which their deeds pay for what is owed."""

from owedonce.plans import late_plan
from owedonce.shops import ledger


def _lets(pairs, body):
    """The body within lets, each pair a name and what is put by under it."""
    for name, term in reversed(pairs):
        body = ("let", name, term, body)
    return body


def _made(word, *names):
    return ("made", word, names)


def _deed(body):
    """The program of a deed on version v, with n."""
    return ("fun", "v", ("fun", "n", body))


# A version of the queue has its front, a stream; its rear, what was put since, the last first; due, the end of the
# front that may not be reckoned yet, of as many as the front has more than the rear; and how many stand. Each deed
# that changes it reckons one of due. Where due ends, all of the front is reckoned, and the rear is turned behind it,
# not at once, but one with each one of the new front. So nobody ever asks for a row of owed ones.

def _with_turn(body):
    """The body, in which turn makes the stream of a job: its front, then its rear turned, then behind.

    The rear has one more than the front, so each step takes one of either.
    """
    again = _lets([("job", _made("job", "fronts", "rears", "ahead")), ("rest", ("call", "turn", "job"))],
                  _made("cons", "first", "rest"))
    by_front = ("by", "front", (("nil", (), ("name", "ahead")), ("cons", ("first", "fronts"), again)))
    longer = ("let", "ahead", _made("cons", "last", "behind"), by_front)
    by_rear = ("by", "rear", (("cons", ("last", "rears"), longer),))
    turn = ("fun", "job", ("by", "job", (("job", ("front", "rear", "behind"), by_rear),)))
    return ("letall", (("turn", turn),), body)


def _told_queue(answer):
    """What a deed tells, with the version of front, rear, due and many, when one of due was asked."""
    out = _made("out", answer, "version")
    one_less = _lets([("back", _made("back", "rear", "rest")),
                      ("version", _made("queue", "front", "back", "many"))], out)
    turned = _lets([("none", _made("nil")), ("job", _made("job", "front", "rear", "none")),
                    ("whole", ("call", "turn", "job")), ("back", _made("back", "none", "whole")),
                    ("version", _made("queue", "whole", "back", "many"))], out)
    return _with_turn(("by", "due", (("cons", ("skipped", "rest"), one_less), ("nil", (), turned))))


def _put():
    more = ("now", "many", ("sum", "stood", "one"), _told_queue("many"))
    behind = _lets([("one", ("num", 1)), ("rear", _made("cons", "n", "elder"))], more)
    by_back = ("by", "back", (("back", ("elder", "due"), behind),))
    return _deed(("by", "v", (("queue", ("front", "back", "stood"), by_back),)))


def _of_first(body):
    """A deed whose body is that of a queue with a first one; of an empty one the answer is -1, and nothing changes."""
    none = ("let", "none", ("num", -1), _made("out", "none", "v"))
    by_all = ("by", "all", (("nil", (), none), ("cons", ("first", "front"), body)))
    return _deed(("by", "v", (("queue", ("all", "back", "stood"), by_all),)))


def _take():
    fewer = ("let", "one", ("num", 1), ("now", "many", ("minus", "stood", "one"), _told_queue("first")))
    return _of_first(("by", "back", (("back", ("rear", "due"), fewer),)))


def _queue():
    start = _lets([("none", _made("nil")), ("zero", ("num", 0)), ("back", _made("back", "none", "none"))],
                  _made("queue", "none", "back", "zero"))
    return (start, (("put", _put()), ("take", _take()), ("first", _of_first(_made("out", "first", "v")))))


# A version of the counter has its digits, a stream, that of the ones first; and its jobs, the places in that where
# a carry may be owed. To count one more reckons the first digit alone: what it carries is owed, and a job. To do a
# job reckons one digit; where that carries, the one behind it is a job instead. Two are done with each "more", so
# at each digit a carry is reckoned ahead of the next one there: nobody ever asks for a row of owed ones.

def _with_next(body):
    """The body, in which next tells the digits of one more."""
    carried = ("let", "carried", ("call", "next", "rest"), _made("zero", "carried"))
    by_digits = ("by", "digits", (("end", (), _made("one", "digits")), ("zero", ("rest",), _made("one", "rest")),
                                  ("one", ("rest",), carried)))
    return ("letall", (("next", ("fun", "digits", by_digits)),), body)


def _with_done(body):
    """The body, in which done tells the jobs that are left when the first one was done."""
    by_digits = ("by", "digits", (("one", ("rest",), ("name", "others")),
                                  ("zero", ("rest",), _made("job", "rest", "others"))))
    by_jobs = ("by", "jobs", (("nil", (), ("name", "jobs")), ("job", ("digits", "others"), by_digits)))
    return ("letall", (("done", ("fun", "jobs", by_jobs)),), body)


def _more():
    out = _lets([("zero", ("num", 0)), ("version", _made("counter", "digits", "left"))],
                _made("out", "zero", "version"))
    two_done = ("now", "fewer", ("call", "done", "all"), ("now", "left", ("call", "done", "fewer"), out))
    counted = ("now", "digits", ("call", "next", "elder"), ("let", "all", _made("job", "digits", "jobs"), two_done))
    return _deed(_with_next(_with_done(("by", "v", (("counter", ("elder", "jobs"), counted),)))))


def _here_or_further(digit):
    """A digit, where it is the one that find looks for, or else what find tells of those behind it."""
    further = _lets([("fewer", ("minus", "k", "one")), ("place", _made("place", "rest", "fewer"))],
                    ("call", "find", "place"))
    return ("by", "here", (("yes", (), ("num", digit)), ("no", (), further)))


def _with_find(body):
    """The body, in which find tells the digit of a place (digits, k): the k-th of these, 0 behind the last."""
    by_digits = ("by", "digits", (("end", (), ("num", 0)), ("zero", ("rest",), _here_or_further(0)),
                                  ("one", ("rest",), _here_or_further(1))))
    of_place = ("by", "place", (("place", ("digits", "k"), ("let", "here", ("less", "k", "one"), by_digits)),))
    return ("letall", (("find", ("fun", "place", of_place)),), body)


def _digit():
    out = _lets([("place", _made("place", "digits", "n")), ("digit", ("call", "find", "place"))],
                _made("out", "digit", "v"))
    by_version = ("by", "v", (("counter", ("digits", "jobs"), out),))
    return _deed(("let", "one", ("num", 1), _with_find(by_version)))


def _counter():
    start = _lets([("digits", _made("end")), ("jobs", _made("nil"))], _made("counter", "digits", "jobs"))
    return (start, (("more", _more()), ("digit", _digit())))


SHOPS = {"queue": _queue, "counter": _counter}


def shop(name):
    """The shop of a name, queue or counter."""
    build = SHOPS[name]
    return build()


def rule(name, history):
    """A plan that is let by for the ledger of a history of that shop.

    Along its own past no deed has much to do, so each may pay just what that lacks.
    """
    return late_plan(ledger(shop(name), history))
