"""Point 14: deeds on versions, in branches and in any order of these, and the ledger."""

import unittest

from owedonce.errors import Stuck, TooMany
from owedonce.shops import ledger, run
from owedonce.terms import is_program
from tests.helper import Chance, deep, fewest, lasting, lets, name, nested, nines, num, pick, told, unused

OUT = ("made", "out", ("n", "v"))


def deed(body):
    return ("fun", "v", ("fun", "n", body))


def answers(call, *given, **named):
    return [answer for answer, _ in call(*given, **named)]


# A version is a number: "add" puts n to it, told is what it was; "peek" tells it, and changes nothing.
ADD = deed(lets([("s", ("sum", "v", "n"))], ("made", "out", ("v", "s"))))
PEEK = deed(("made", "out", ("v", "v")))
TALLY = (num(10), (("add", ADD), ("peek", PEEK)))

# A version is a box of what is owed: "owe" puts a call by, "pay" asks it.
CALL = ("call", "f", "f")
OWE = deed(lets([("f", ("fun", "x", num(4))), ("r", CALL), ("b", ("made", "box", ("r",)))],
                ("made", "out", ("n", "b"))))
PAY = deed(pick("v", ("box", ("p",), ("made", "out", ("p", "v")))))
OWING = (lets([("f", ("fun", "x", num(7))), ("r", CALL)], ("made", "box", ("r",))), (("owe", OWE), ("pay", PAY)))


class ShopTest(unittest.TestCase):

    def fits(self, shop):
        for program in (shop[0], *[pair[1] for pair in shop[1]]):
            self.assertTrue(is_program(program), program)

    def runs(self, shop, history, *wanted, order=None):
        self.fits(shop)
        self.assertEqual(run(shop, history, order=order), list(wanted))

    def sticks(self, shop, history, number):
        self.fits(shop)
        for call in (run, ledger):
            with self.assertRaises(Stuck) as caught:
                call(shop, history)
            self.assertEqual(caught.exception.number, number)


class RunTest(ShopTest):

    def test_versions_of_all_kinds(self):
        history = [("add", 0, 5), ("add", 1, 7), ("add", 0, 1), ("peek", 2, 0), ("peek", 1, 0), ("peek", 3, 0),
                   ("peek", 0, 0), ("add", 4, 100), ("peek", 8, 9), ("add", 1, 2), ("peek", 10, 3)]
        wanted = [10, 15, 10, 22, 15, 11, 10, 22, 122, 15, 17]
        self.fits(TALLY)
        self.assertEqual(answers(run, TALLY, history), wanted)
        self.runs(TALLY, history, *[(n, 2) for n in wanted])

    def test_one_version_again_and_again(self):
        history = [("add", 0, n) for n in range(-3, 4)] + [("peek", at, 0) for at in range(1, 8)]
        self.runs(TALLY, history, *[(10, 2)] * 7, *[(10 + n, 2) for n in range(-3, 4)])

    def test_n_is_handed_in_as_it_is(self):
        shop = (num(1), (("ab", deed(OUT)),))
        for n in (0, -1, 10 ** 18, -10 ** 18, 17):
            self.runs(shop, [("ab", 0, n)], (n, 2))
            self.assertIs(type(run(shop, [("ab", 0, n)])[0][0]), int)

    def test_answers_are_by_the_look_one(self):
        fun = lets([("f", ("fun", "x", num(1)))], ("made", "out", ("f", "v")))
        head = lets([("s", ("call", "n", "n")), ("m", ("made", "c", ("s", "v", "n")))], ("made", "out", ("m", "v")))
        empty = lets([("m", ("made", "e", ()))], ("made", "out", ("m", "v")))
        shop = (num(3), (("fun", deed(fun)), ("head", deed(head)), ("empty", deed(empty)), ("n", deed(OUT))))
        self.runs(shop, [("fun", 0, 1), ("head", 1, 2), ("empty", 2, 3), ("n", 3, 4)],
                  (("fun",), 2), (("c", (None, None, None)), 2), (("e", ()), 2), (4, 2))

    def test_steps_are_those_done_in_its_time(self):
        # r is put by with the first deed: the first one to ask it does its step.
        self.runs(OWING, [("owe", 0, 1), ("pay", 1, 0), ("pay", 1, 0), ("owe", 2, 5), ("pay", 4, 0)],
                  (1, 2), (4, 3), (4, 2), (5, 2), (4, 3))

    def test_none_are_of_the_start(self):
        # What the start puts by, and who asks it does; what is done with the start, nobody does.
        self.runs(OWING, [("pay", 0, 0), ("pay", 0, 0)], (7, 3), (7, 2))
        start = ("now", "u", CALL, ("now", "w", name("r"), ("made", "box", ("r",))))
        done = (lets([("f", ("fun", "x", num(7))), ("r", CALL)], start), OWING[1])
        self.runs(done, [("pay", 0, 0), ("pay", 0, 0)], (7, 2), (7, 2))

    def test_an_answer_is_asked_a_version_too(self):
        four = ("fun", "x", num(4))
        body = lets([("f", four), ("a", CALL), ("b", CALL), ("c", CALL)], ("made", "out", ("a", "b")))
        self.runs((num(1), (("ab", deed(body)),)), [("ab", 0, 0), ("ab", 1, 0)], (4, 4), (4, 4))

    def test_versions_are_worths_and_no_further_looked_at(self):
        stuck = lets([("s", ("call", "n", "n")), ("m", ("made", "box", ("s",)))], ("made", "out", ("n", "m")))
        self.runs((num(1), (("ab", deed(stuck)),)), [("ab", 0, 5), ("ab", 1, 6)], (5, 2), (6, 2))
        self.sticks((num(1), (("ab", deed(stuck)), ("pay", PAY))), [("ab", 0, 5), ("pay", 1, 6)], (1, 1))

    def test_a_program_is_gone_into_for_each_deed(self):
        # What is put by outside of the funs is put by anew with each deed.
        program = lets([("f", ("fun", "x", num(4))), ("r", CALL)], deed(("made", "out", ("r", "v"))))
        self.runs((num(1), (("ab", program),)), [("ab", 0, 0), ("ab", 0, 0), ("ab", 2, 0)], (4, 3), (4, 3), (4, 3))

    def test_programs_that_come_to_a_fun(self):
        for program, steps in ((lets([("d", deed(OUT))], name("d")), 2),
                               (lets([("g", ("fun", "x", deed(OUT)))], ("call", "g", "g")), 3),
                               (("fun", "v", lets([("g", ("fun", "n", OUT))], name("g"))), 2),
                               (("fun", "v", ("fun", "n", lets([("o", OUT)], name("o")))), 2)):
            self.runs((num(1), (("ab", program),)), [("ab", 0, 6), ("ab", 1, 7)], (6, steps), (7, steps))

    def test_no_deeds(self):
        self.runs(TALLY, [])
        self.runs(TALLY, [], order=[])
        # The start is gone into all the same.
        self.sticks((("let", "n", num(1), ("call", "n", "n")), TALLY[1]), [], (0,))
        for call in (run, ledger):
            self.assertEqual(told(call, TALLY, [], limit=0), ("TooMany",))
            self.assertEqual(told(call, TALLY, [], limit=1)[0], "told")

    def test_sixty_deeds(self):
        chain = [("add", at, at + 1) for at in range(60)]
        self.runs(TALLY, chain, *[(10 + at * (at + 1) // 2, 2) for at in range(60)])
        self.runs(TALLY, [("add", 0, at) for at in range(59)] + [("peek", 59, 0)], *[(10, 2)] * 59, (68, 2))
        owed = [("owe", 0, 1)] + [("pay", 1, 0)] * 59
        self.runs(OWING, owed, (1, 2), (4, 3), *[(4, 2)] * 58)
        self.assertEqual(len(ledger(TALLY, chain)[0]), 60)

    def test_somewhat_beyond_is_no_error(self):
        many = [("add", at, 1) for at in range(90)]
        self.assertEqual(answers(run, TALLY, many), [10 + at for at in range(90)])
        seven = (num(1), tuple((word, PEEK) for word in "abcdefg"))
        self.runs(seven, [("g", 0, 10 ** 20)], (1, 2))

    def test_the_told(self):
        once = run(TALLY, [("add", 0, 5)])
        self.assertIs(type(once), list)
        self.assertIs(type(once[0]), tuple)
        once.append("more")
        self.assertEqual(run(TALLY, [("add", 0, 5)]), [(10, 2)])


class OrdersTest(ShopTest):

    HISTORY = [("add", 0, 5), ("add", 0, 6), ("add", 1, 7), ("peek", 3, 0), ("peek", 2, 0)]

    def test_of_all_deeds(self):
        told_of = {1: (10, 2), 2: (10, 2), 3: (15, 2), 4: (22, 2), 5: (16, 2)}
        for order in ([1, 2, 3, 4, 5], [2, 5, 1, 3, 4], [1, 3, 4, 2, 5], [2, 1, 5, 3, 4], [1, 3, 2, 4, 5]):
            self.runs(TALLY, self.HISTORY, *[told_of[k] for k in order], order=order)
        self.runs(TALLY, self.HISTORY, *[told_of[k] for k in range(1, 6)])

    def test_of_some_and_of_none(self):
        self.runs(TALLY, self.HISTORY, (10, 2), (16, 2), order=[2, 5])
        self.runs(TALLY, self.HISTORY, (10, 2), (15, 2), (22, 2), order=[1, 3, 4])
        self.runs(TALLY, self.HISTORY, order=[])
        self.runs(TALLY, self.HISTORY, (10, 2), order=[2])

    def test_who_comes_first_does_the_steps(self):
        history = [("owe", 0, 1), ("pay", 1, 0), ("pay", 1, 0), ("pay", 2, 0)]
        self.runs(OWING, history, (1, 2), (4, 3), (4, 2), (4, 2))
        self.runs(OWING, history, (1, 2), (4, 3), (4, 2), (4, 2), order=[1, 3, 2, 4])
        self.runs(OWING, history, (1, 2), (4, 3), order=[1, 3])
        self.runs(OWING, [("pay", 0, 0), ("pay", 0, 0)], (7, 3), (7, 2), order=[2, 1])

    def test_a_deed_keeps_its_number_in_any_order(self):
        bad = deed(lets([("s", ("call", "n", "n"))], ("made", "out", ("s", "v"))))
        shop = (num(1), (("ab", deed(OUT)), ("bad", bad)))
        history = [("ab", 0, 1), ("bad", 0, 1), ("ab", 0, 1), ("bad", 3, 1)]
        self.assertEqual(told(run, shop, history), ("Stuck", (2, 1)))
        self.assertEqual(told(run, shop, history, order=[3, 4, 1, 2]), ("Stuck", (4, 1)))
        self.runs(shop, history, (1, 2), (1, 2), order=[3, 1])

    def test_what_is_handed_in_is_not_changed(self):
        order, history = [2, 5, 1], list(self.HISTORY)
        run(TALLY, history, order=order)
        self.assertEqual((order, history), ([2, 5, 1], self.HISTORY))
        # What is done to them behind the call changes nothing that was told.
        first = run(TALLY, history, order=order)
        deeds, numbers = ledger(TALLY, history)
        history.clear()
        order.clear()
        self.assertEqual(first, [(10, 2), (16, 2), (10, 2)])
        self.assertEqual((len(deeds), len(numbers)), (5, 3))


class StuckTest(ShopTest):

    def test_a_worth_that_is_no_function(self):
        for bad in (num(1), ("made", "out", ()), lets([("a", num(1))], ("made", "out", ("a", "a")))):
            self.sticks((num(1), (("ab", bad),)), [("ab", 0, 1)], (1,))
            self.sticks((num(1), (("ok", deed(OUT)), ("ab", bad))), [("ok", 0, 1), ("ok", 1, 1), ("ab", 1, 1)], (3,))

    def test_the_second_no_function(self):
        one = lets([("a", num(1))], ("made", "out", ("a", "a")))
        for bad in (num(1), one, name("v")):
            self.sticks((num(1), (("ok", deed(OUT)), ("ab", ("fun", "v", bad)))), [("ok", 0, 1), ("ab", 1, 1)], (2,))

    def test_no_out_of_two_parts(self):
        for bad in (num(1), name("n"), ("fun", "x", OUT), ("made", "in", ("n", "v")), ("made", "out", ()),
                    ("made", "out", ("n",)), ("made", "out", ("n", "v", "v")), ("made", "outs", ("n", "v"))):
            self.sticks((num(1), (("ok", deed(OUT)), ("ab", deed(bad)))), [("ok", 0, 1), ("ab", 1, 1)], (2,))

    def test_within(self):
        call = ("call", "n", "n")
        for bad, number in ((call, (2,)), (lets([("s", call)], name("s")), (2, 1)),
                            (lets([("s", call)], ("made", "out", ("s", "v"))), (2, 1)),
                            (lets([("r", num(1)), ("s", call)], ("made", "out", ("r", "s"))), (2, 2)),
                            (lets([("r", call), ("s", call)], ("made", "out", ("s", "r"))), (2, 2))):
            self.sticks((num(1), (("ok", deed(OUT)), ("ab", deed(bad)))), [("ok", 0, 1), ("ab", 1, 1)], number)

    def test_the_start(self):
        self.sticks((("let", "n", num(1), ("call", "n", "n")), TALLY[1]), [("add", 0, 1)], (0,))
        self.sticks((("let", "n", num(1), lets([("s", ("call", "n", "n"))], name("s"))), TALLY[1]), [], (0, 2))
        # A start may be of any worth, and what isn't asked of it isn't reckoned.
        stuck = lets([("n", num(1)), ("s", ("call", "n", "n"))], ("made", "c", ("s",)))
        for start in (("fun", "x", num(1)), ("made", "c", ()), num(1), stuck):
            self.runs((start, (("ab", deed(OUT)),)), [("ab", 0, 3)], (3, 2))

    def test_the_first_part_is_asked_first(self):
        bad = lets([("s", ("call", "n", "n")), ("t", ("call", "n", "n"))], ("made", "out", ("s", "t")))
        self.sticks((num(1), (("ab", deed(bad)),)), [("ab", 0, 1)], (1, 1))


class LedgerTest(ShopTest):

    def test_deeds_and_numbers(self):
        history = [("owe", 0, 1), ("pay", 1, 0), ("pay", 1, 0)]
        self.fits(OWING)
        deeds, numbers = ledger(OWING, history)
        self.assertEqual(deeds, [(0, 2, [(1, 3)]), (1, 2, [(1, 2)]), (1, 2, [(1, 2)])])
        self.assertEqual(numbers, [((1, 1), 0, []), ((1, 2), 1, [(1, 1)]), ((1, 3), 0, [])])

    def test_asked_ready_or_not(self):
        history = [("owe", 0, 1), ("pay", 1, 0), ("pay", 2, 0), ("pay", 0, 0), ("pay", 4, 0)]
        deeds, numbers = ledger(OWING, history)
        self.assertEqual(deeds, [(0, 2, [(1, 3)]), (1, 2, [(1, 2)]), (2, 2, [(1, 2)]), (0, 2, [(0, 2)]),
                                 (4, 2, [(0, 2)])])
        # The numbers of the start that are gone into in a deed's time have their own steps.
        self.assertEqual(numbers, [((0, 1), 0, []), ((0, 2), 1, [(0, 1)]), ((1, 1), 0, []), ((1, 2), 1, [(1, 1)]),
                                   ((1, 3), 0, [])])

    def test_those_of_the_start_have_no_own_steps(self):
        start = lets([("f", ("fun", "x", num(7))), ("r", CALL), ("s", CALL)],
                     ("now", "u", lets([("t", CALL)], ("sum", "r", "t")), ("made", "box", ("s",))))
        shop = (start, OWING[1])
        self.fits(shop)
        deeds, numbers = ledger(shop, [("pay", 0, 0)])
        self.assertEqual(deeds, [(0, 2, [(0, 3)])])
        self.assertEqual(numbers, [((0, 1), 0, []), ((0, 2), 0, [(0, 1)]), ((0, 3), 1, [(0, 1)]),
                                   ((0, 4), 0, [(0, 2), (0, 4, 1)]), ((0, 4, 1), 0, [(0, 1)])])
        self.assertEqual(ledger(shop, [])[0], [])
        self.assertEqual([row[0] for row in ledger(shop, [])[1]], [(0, 1), (0, 2), (0, 4), (0, 4, 1)])

    def test_the_row_of_the_start_is_in_neither(self):
        for history in ([], [("add", 0, 1)], [("add", 0, 1), ("peek", 1, 0)]):
            deeds, numbers = ledger(TALLY, history)
            self.assertEqual(len(deeds), len(history))
            self.assertNotIn((0,), [row[0] for row in numbers])
        self.assertEqual(ledger(TALLY, []), ([], []))

    def test_the_answer_and_the_version_are_asked_by_the_deed(self):
        body = lets([("a", num(1)), ("b", num(2)), ("c", num(3))], ("made", "out", ("c", "a")))
        deeds, numbers = ledger((num(1), (("ab", deed(body)),)), [("ab", 0, 0), ("ab", 1, 0)])
        self.assertEqual(deeds, [(0, 2, [(1, 1), (1, 3)]), (1, 2, [(2, 1), (2, 3)])])
        self.assertEqual([row[0] for row in numbers], [(1, 1), (1, 3), (2, 1), (2, 3)])
        # A version, and n, stand as worths: they have no number.
        self.assertEqual(ledger((num(1), (("ab", deed(OUT)),)), [("ab", 0, 5)]), ([(0, 2, [])], []))
        self.assertEqual(ledger(TALLY, [("add", 0, 5), ("peek", 1, 0)])[0], [(0, 2, [(1, 1)]), (1, 2, [])])

    def test_own_steps_of_a_deed(self):
        funs = [("g", ("fun", "x", ("call", "x", "n"))), ("i", ("fun", "y", name("y")))]
        out = lets([("h", ("fun", "x", OUT))], ("call", "h", "h"))
        body = lets([*funs, ("a", ("call", "g", "i"))], ("now", "u", name("a"), out))
        deeds, numbers = ledger((num(1), (("ab", deed(body)),)), [("ab", 0, 5)])
        self.assertEqual(deeds, [(0, 3, [(1, 4), (1, 5)])])
        self.assertEqual(numbers, [((1, 1), 0, []), ((1, 2), 0, []), ((1, 3), 2, [(1, 1), (1, 2)]),
                                   ((1, 4), 0, [(1, 3)]), ((1, 5), 0, [])])

    def test_deeds_by_their_numbers_numbers_rising(self):
        history = [("add", 0, at) for at in range(1, 13)]
        deeds, numbers = ledger(TALLY, history)
        self.assertEqual(deeds, [(0, 2, [(at, 1)]) for at in range(1, 13)])
        self.assertEqual(numbers, [((at, 1), 0, []) for at in range(1, 13)])
        many = deed(lets([(letter, num(1)) for letter in "abcdefghijkl"],
                         ("now", "u", ("sum", "l", "b"), ("made", "out", ("j", "a")))))
        deeds, numbers = ledger((num(1), (("ab", many),)), [("ab", 0, 0)])
        self.assertEqual(deeds, [(0, 2, [(1, 1), (1, 10), (1, 13)])])
        self.assertEqual([row[0] for row in numbers], [(1, 1), (1, 2), (1, 10), (1, 12), (1, 13)])

    def test_the_told_lists_are_the_askers_own(self):
        history = [("owe", 0, 1), ("pay", 1, 0)]
        wanted = ledger(OWING, history)
        once = ledger(OWING, history)
        self.assertIs(type(once), tuple)
        for rows in once:
            self.assertIs(type(rows), list)
            for row in rows:
                self.assertIs(type(row), tuple)
                self.assertIs(type(row[2]), list)
                row[2].append("more")
            rows.clear()
        self.assertEqual(ledger(OWING, history), wanted)


class PiecesTest(ShopTest):

    def takes(self, pieces, shop, history):
        self.fits(shop)
        for call in (run, ledger):
            self.assertEqual(fewest(call, shop, history), pieces)

    def test_each_going_into_and_each_asking(self):
        self.takes(1, TALLY, [])
        # The start, the program, the fun in it, the made thing, n and v.
        shop = (num(1), (("ab", deed(OUT)),))
        self.takes(6, shop, [("ab", 0, 1)])
        self.takes(11, shop, [("ab", 0, 1), ("ab", 0, 1)])
        self.takes(6 + 5 * 59, shop, [("ab", at, 1) for at in range(60)])
        # add: more by a let, and by the sum with two askings.
        self.takes(1 + 9, TALLY, [("add", 0, 1)])
        self.takes(1 + 9 + 5, TALLY, [("add", 0, 1), ("peek", 1, 1)])

    def test_one_limit_for_the_start_and_all_deeds(self):
        for many in (1, 2, 5):
            history = [("add", at, 1) for at in range(many)]
            for limit in range(1 + 9 * many):
                self.assertEqual(told(run, TALLY, history, limit=limit), ("TooMany",))
                self.assertEqual(told(ledger, TALLY, history, limit=limit), ("TooMany",))
            self.assertEqual(run(TALLY, history, limit=1 + 9 * many), run(TALLY, history))
            self.assertEqual(run(TALLY, history, limit=10 ** 12), run(TALLY, history))
        start = (unused(50, num(10)), TALLY[1])
        self.takes(51 + 9, start, [("add", 0, 1)])

    def test_an_order_takes_what_its_deeds_take(self):
        history = [("add", 0, 5), ("add", 0, 6), ("peek", 2, 0)]
        for order, pieces in (([], 1), ([2], 10), ([2, 3], 15), ([1, 2], 19), ([2, 3, 1], 24)):
            self.assertEqual(fewest(lambda *given, **named: run(*given, order=order, **named), TALLY, history), pieces)

    def test_too_many_or_stuck_whichever_comes_first(self):
        shop = (num(1), (("ab", deed(num(1))),))
        # The start, the program, the fun in it, num: then it is stuck.
        for call in (run, ledger):
            self.assertEqual(told(call, shop, [("ab", 0, 1)], limit=4), ("Stuck", (1,)))
            self.assertEqual(told(call, shop, [("ab", 0, 1)], limit=3), ("TooMany",))

    def test_numbers_just_inside_and_beyond(self):
        most = 10 ** 60 - 1
        shop = (nines(name("n")), TALLY[1])
        self.fits(shop)
        self.assertEqual(answers(run, shop, [("add", 0, 0), ("peek", 1, 0)]), [most, most])
        for call in (run, ledger):
            self.assertEqual(told(call, shop, [("add", 0, 1)]), ("TooMany",))
            self.assertEqual(told(call, shop, [("add", 0, -1), ("add", 1, 1), ("add", 2, 1)]), ("TooMany",))
        below = (nines(("minus", "zero", "n")), TALLY[1])
        self.assertEqual(answers(run, below, [("add", 0, 1), ("add", 1, -1), ("peek", 2, 0)]), [-most, 1 - most, -most])
        for call in (run, ledger):
            self.assertEqual(told(call, below, [("add", 0, -1)]), ("TooMany",))

    def test_a_number_of_a_hundred_parts_and_of_one_more(self):
        # The goings of a shop have a part ahead of all that come up in them, so one more than in a program.
        for k, outcome in ((98, "told"), (99, "TooMany")):
            start = (deep(k), TALLY[1])
            later = (num(1), (("ab", deed(("now", "w", deep(k - 1), OUT))),))
            for shop, history in ((start, []), (later, [("ab", 0, 1)])):
                self.fits(shop)
                for call in (run, ledger):
                    self.assertEqual(told(call, shop, history, limit=10 ** 6)[0], outcome)
        _, numbers = ledger((deep(98), TALLY[1]), [])
        self.assertEqual(max(len(row[0]) for row in numbers), 100)

    def test_a_hundred_thousand_where_no_limit_is_told(self):
        # One piece of the start, and of each deed four and what it lasts.
        for pieces, outcome in ((100000, "told"), (100001, "TooMany")):
            start = (lasting(pieces), TALLY[1])
            self.fits(start)
            for call in (run, ledger):
                self.assertEqual(told(call, start, [])[0], outcome)
            half = lasting(pieces // 2 - 5, OUT)
            rest = lasting(pieces - pieces // 2 - 4, OUT)
            shop = (num(1), (("ab", deed(half)), ("cd", deed(rest))))
            self.fits(shop)
            history = [("ab", 0, 1), ("cd", 1, 1)]
            for call in (run, ledger):
                self.assertEqual(told(call, shop, history)[0], outcome)
                self.assertEqual(told(call, shop, history, limit=pieces)[0], "told")
                self.assertEqual(told(call, shop, history, limit=pieces - 1), ("TooMany",))
                self.assertEqual(told(call, shop, history, limit=10 ** 9)[0], "told")


class FarTest(ShopTest):

    def test_askings_some_thousand_within_one_another(self):
        # Each deed's version asks the one ahead of it, and they aren't asked but at the end; so do nested's.
        shop = (num(1), (("ab", deed(("now", "w", nested(12), OUT))),))
        self.fits(shop)
        self.assertEqual(run(shop, [("ab", 0, 5)], limit=10 ** 6), [(5, 2 + 8191)])
        self.assertEqual(len(ledger(shop, [("ab", 0, 5)], limit=10 ** 6)[1]), 4096 + 2)

    def test_what_is_owed_along_a_history(self):
        # Each "more" puts n askings by, each of the one ahead of it; "all" asks the last one.
        loop = lets([("m", ("minus", "k", "one")), ("t", ("sum", "s", "one"))], (
            "now", "i", name("m"), lets([("g", ("call", "loop", "i"))], ("call", "g", "t"))))
        body = ("let", "end", ("less", "k", "one"), pick("end", ("yes", (), ("made", "box", ("s",))), ("no", (), loop)))
        more = pick("v", ("box", ("p",), lets([("one", num(1))], (
            "letall", (("loop", ("fun", "k", ("fun", "s", body))),), lets(
                [("h", ("call", "loop", "n")), ("b", ("call", "h", "p"))], ("made", "out", ("n", "b")))))))
        shop = (lets([("z", num(0))], ("made", "box", ("z",))), (("more", deed(more)), ("all", PAY)))
        self.fits(shop)
        history = [("more", at, 100) for at in range(50)] + [("all", 50, 0), ("all", 25, 0)]
        told_of = run(shop, history, limit=10 ** 6)
        self.assertEqual(told_of[:50], [(100, 204)] * 50)
        self.assertEqual(told_of[50:], [(5000, 2), (2500, 2)])


class ChanceTest(ShopTest):
    """Point 3: the same answers in whatever order; each deed does what nobody ahead of it asked."""

    def histories(self):
        for seed in range(400):
            chance = Chance(seed)
            shop = chance.shop()
            history = chance.history(shop)
            if all(is_program(program) for program in (shop[0], *[pair[1] for pair in shop[1]])):
                if told(run, shop, history)[0] == "told":
                    yield chance, shop, history

    def test_the_same_answers_in_whatever_order(self):
        many = other = 0
        for chance, shop, history in self.histories():
            own = run(shop, history)
            for is_whole in (True, True, False):
                order = chance.order(history, is_whole)
                done = run(shop, history, order=order)
                self.assertEqual([answer for answer, _ in done], [own[k - 1][0] for k in order])
                if is_whole:
                    self.assertEqual(sum(steps for _, steps in done), sum(steps for _, steps in own))
                other += [own[k - 1] for k in order] != done
                many += 1
        self.assertGreater(many, 300)
        self.assertGreater(other, 0)

    def test_a_deed_takes_the_steps_of_what_it_asks_and_nobody_ahead(self):
        for chance, shop, history in self.histories():
            deeds, numbers = ledger(shop, history)
            rows = {number: (steps, asked) for number, steps, asked in numbers}
            order, done = chance.order(history, True), set()
            for k, (_, steps) in zip(order, run(shop, history, order=order)):
                version, spent, todo = deeds[k - 1][0], deeds[k - 1][1], list(deeds[k - 1][2])
                self.assertEqual(version, history[k - 1][1])
                while todo:
                    number = todo.pop()
                    if number not in done:
                        done.add(number)
                        spent += rows[number][0]
                        todo += rows[number][1]
                self.assertEqual(steps, spent)


class ArgumentsTest(unittest.TestCase):

    def test_by_the_names_shown(self):
        history = [("add", 0, 5)]
        self.assertEqual(run(shop=TALLY, history=history, order=[1], limit=50), [(10, 2)])
        self.assertEqual(run(shop=TALLY, history=history, order=None), [(10, 2)])
        self.assertEqual(ledger(shop=TALLY, history=history, limit=50), ([(0, 2, [(1, 1)])], [((1, 1), 0, [])]))

    def test_order_and_limit_by_name_alone(self):
        for call, more in ((run, [1]), (ledger, 50)):
            with self.assertRaises(TypeError):
                call(TALLY, [("add", 0, 5)], more)
        with self.assertRaises(TooMany):
            run(TALLY, [("add", 0, 5)], limit=9)
