"""Points 5 to 8: goings, numbers, refusals, looks, and what is plain."""

import unittest

from owedonce.errors import Stuck, TooMany
from owedonce.late import late, rows
from owedonce.plainly import plain
from owedonce.terms import is_program
from tests.helper import deep, fewest, lets, name, nines, num, pick, told, unused

YES = ("yes", ())
NO = ("no", ())
RUNS = (plain, late)


class RunTest(unittest.TestCase):

    def sees(self, program, seen, steps, look=60):
        """Plainly and late alike: the seen and the steps."""
        self.assertTrue(is_program(program), program)
        for run in RUNS:
            self.assertEqual(run(program, look), (seen, steps), (run, program))

    def sticks(self, program, number, look=1):
        self.assertTrue(is_program(program), program)
        for run in (*RUNS, rows):
            with self.assertRaises(Stuck) as caught:
                run(program, look)
            self.assertEqual(caught.exception.number, number)

    def takes(self, pieces, program, look=1):
        """Plainly and late alike: just so many pieces."""
        self.assertTrue(is_program(program), program)
        for run in (*RUNS, rows):
            self.assertNotEqual(told(run, program, look, limit=pieces), ("TooMany",), run)
            with self.assertRaises(TooMany):
                run(program, look, limit=pieces - 1)


class SortsTest(RunTest):

    def test_worths(self):
        self.sees(num(-5), -5, 0)
        self.sees(num(10 ** 18), 10 ** 18, 0)
        self.sees(("fun", "x", name("x")), ("fun",), 0)
        self.sees(("made", "c", ()), ("c", ()), 0)
        self.sees(lets([("a", num(1)), ("b", num(2))], ("made", "c", ("b", "a", "b"))), ("c", (2, 1, 2)), 0)

    def test_name_let_and_now(self):
        for sort in ("let", "now"):
            self.sees((sort, "a", num(3), name("a")), 3, 0)
            self.sees((sort, "a", num(3), num(4)), 4, 0)
            # The name is not bound in what it stands for, but the one round it.
            self.sees(("let", "a", num(3), (sort, "a", name("a"), name("a"))), 3, 0)

    def test_what_a_let_puts_by_is_gone_into_when_asked_alone(self):
        stuck = ("sum", "f", "f")
        for body in (num(1), ("made", "c", ("s",)), ("fun", "x", name("s"))):
            program = lets([("f", ("fun", "x", num(1))), ("s", stuck)], body)
            for run in RUNS:
                run(program, 1)
        self.sticks(lets([("f", ("fun", "x", num(1))), ("s", stuck)], name("s")), (2,))
        self.sticks(("let", "f", ("fun", "x", num(1)), ("now", "s", stuck, num(1))), (2,))

    def test_call(self):
        self.sees(lets([("f", ("fun", "x", ("sum", "x", "x"))), ("a", num(4))], ("call", "f", "a")), 8, 1)
        # A fun's names stand for what they stand for where it stands.
        fun = lets([("k", num(10))], ("fun", "x", ("sum", "x", "k")))
        self.sees(lets([("f", fun), ("k", num(1)), ("x", num(2))], ("call", "f", "k")), 11, 1)

    def test_a_call_does_not_ask_what_it_hands_in(self):
        base = [("f", ("fun", "x", num(7))), ("s", ("call", "one", "one"))]
        self.sees(("let", "one", num(1), lets(base, ("call", "f", "s"))), 7, 1)

    def test_letall(self):
        pairs = (("f", ("fun", "x", ("call", "g", "x"))), ("g", ("fun", "x", ("sum", "x", "x"))))
        self.sees(("let", "a", num(4), ("letall", pairs, ("call", "f", "a"))), 8, 2)
        ring = (("a", ("made", "c", ("b",))), ("b", ("made", "d", ("a",))))
        self.sees(("letall", ring, name("a")), ("c", (("d", (("c", (None,)),)),)), 0, 3)
        inner = ("letall", (("a", ("made", "e", ("b", "a"))),), name("a"))
        self.sees(("let", "a", num(1), ("let", "b", name("a"), inner)), ("e", (1, ("e", (1, None)))), 0, (1, (1,)))

    def test_by(self):
        def chosen(made):
            branches = (("c", ("p", "q"), ("minus", "p", "q")), ("d", (), num(0)), ("e", ("one",), name("one")))
            return lets([("one", num(1)), ("two", num(2)), ("x", made)], pick("x", *branches))
        self.sees(chosen(("made", "c", ("two", "one"))), 1, 0)
        self.sees(chosen(("made", "c", ("one", "two"))), -1, 0)
        self.sees(chosen(("made", "d", ())), 0, 0)
        self.sees(chosen(("made", "e", ("two",))), 2, 0)

    def test_by_does_not_ask_the_parts(self):
        program = lets([("s", ("call", "n", "n")), ("x", ("made", "c", ("s", "n")))],
                       pick("x", ("c", ("a", "b"), name("b"))))
        self.sees(("let", "n", num(5), program), 5, 0)

    def test_sums_and_tests(self):
        for x, y in ((1, 2), (2, 1), (2, 2), (-10 ** 18, 10 ** 18), (0, 0), (-1, -2)):
            pair = [("x", num(x)), ("y", num(y))]
            self.sees(lets(pair, ("sum", "x", "y")), x + y, 0)
            self.sees(lets(pair, ("minus", "x", "y")), x - y, 0)
            self.sees(lets(pair, ("less", "x", "y")), YES if x < y else NO, 0)
            self.sees(lets(pair, ("same", "x", "y")), YES if x == y else NO, 0)

    def test_a_name_stands_for_the_nearest_binding(self):
        fun = ("fun", "a", ("let", "b", num(2), ("let", "a", ("sum", "a", "b"), name("a"))))
        self.sees(lets([("a", num(40)), ("f", fun)], ("call", "f", "a")), 42, 1)
        box = lets([("a", num(1)), ("b", num(2)), ("x", ("made", "c", ("b", "a")))],
                   pick("x", ("c", ("a", "b"), ("minus", "a", "b"))))
        self.sees(box, 1, 0)

    def test_steps_are_the_calls(self):
        twice = ("fun", "x", ("let", "u", ("call", "f", "x"), ("call", "f", "u")))
        program = ("let", "f", ("fun", "x", ("sum", "x", "x")), ("let", "g", twice, lets(
            [("a", num(3))], ("call", "g", "a"))))
        # Plainly u is gone into twice, for the sum asks it twice.
        self.assertEqual(late(program, 1), (12, 3))
        self.assertEqual(plain(program, 1), (12, 4))


class StuckTest(RunTest):

    OTHERS = (num(1), ("fun", "x", num(1)), ("made", "c", ()))

    def test_call_of_no_fun(self):
        for worth in (self.OTHERS[0], self.OTHERS[2]):
            base = [("f", worth)]
            self.sticks(lets(base, ("call", "f", "f")), ())
            self.sticks(lets(base + [("s", ("call", "f", "f"))], name("s")), (2,))
            inner = lets([("t", ("call", "f", "f"))], name("t"))
            self.sticks(lets(base + [("s", inner)], name("s")), (2, 1))

    def test_by(self):
        for worth in (self.OTHERS[0], self.OTHERS[1]):
            self.sticks(lets([("x", worth)], pick("x", ("c", (), num(1)))), ())
        made = lets([("n", num(1)), ("x", ("made", "c", ("n",)))], name("x"))
        for branches in ([("d", ("a",), num(1))], [("c", (), num(1))], [("c", ("a", "b"), num(1))],
                         [("d", ("a",), num(1)), ("c", ("a", "b", "e"), num(1))], [("n", ("a",), num(1))]):
            self.sticks(lets([("x", made)], pick("x", *branches)), ())
            self.sticks(lets([("x", made), ("s", pick("x", *branches))], name("s")), (2,))

    def test_sums_and_tests_by_either_name(self):
        for sort in ("sum", "minus", "less", "same"):
            for worth in self.OTHERS[1:]:
                base = [("n", num(1)), ("w", worth)]
                for term in ((sort, "n", "w"), (sort, "w", "n"), (sort, "w", "w")):
                    self.sticks(lets(base, term), ())
                    self.sticks(lets(base + [("s", term)], ("sum", "n", "s")), (3,))
                    self.sticks(lets(base, ("now", "s", term, num(1))), (3,))

    def test_the_first_is_stuck_before_the_second_is_asked(self):
        base = [("n", num(1)), ("w", ("made", "c", ())), ("s", ("call", "n", "n"))]
        for sort in ("sum", "minus", "less", "same"):
            self.sticks(lets(base, (sort, "w", "s")), ())
            self.sticks(lets(base, (sort, "n", "s")), (3,))
            self.sticks(lets(base, (sort, "s", "w")), (3,))

    def test_the_going_is_the_one_that_calls(self):
        stuck = ("fun", "x", ("sum", "f", "x"))
        program = ("letall", (("f", stuck),), lets([("a", num(1)), ("b", ("call", "f", "a"))], name("b")))
        self.sticks(program, (2,))
        self.sticks(("letall", (("f", stuck),), ("call", "f", "f")), ())

    def test_of_several_refusals_the_first(self):
        # let, let, sum, the asking of f, fun: five pieces, then it is stuck.
        program = lets([("f", ("fun", "x", num(1))), ("n", num(1))], ("sum", "f", "n"))
        for run in (*RUNS, rows):
            self.assertEqual(told(run, program, 1, limit=5), ("Stuck", ()))
            self.assertEqual(told(run, program, 1, limit=4), ("TooMany",))
        later = ("now", "s", ("sum", "f", "f"), ("call", "n", "n"))
        self.sticks(lets([("f", ("fun", "x", num(1))), ("n", num(1))], later), (3,))
        self.assertEqual(told(late, nines(("now", "m", ("sum", "n", "one"), ("call", "n", "n"))), 1), ("TooMany",))
        stuck_first = nines(("now", "m", ("call", "one", "n"), ("sum", "n", "one")))
        self.assertEqual(told(late, stuck_first, 1)[0], "Stuck")


class NumbersTest(RunTest):

    def numbers(self, program, *numbers, look=60):
        self.assertTrue(is_program(program), program)
        self.assertEqual([row[0] for row in rows(program, look)], list(numbers))

    def test_lets_and_nows_count_alike_in_the_order_they_come_up(self):
        self.numbers(lets([("a", num(1)), ("b", num(2)), ("c", num(3))], name("b")), (), (2,))
        self.numbers(("now", "a", num(1), ("let", "b", num(2), ("now", "c", num(3), name("b")))),
                     (), (1,), (2,), (3,))
        inner = lets([("u", num(1)), ("v", name("u"))], name("v"))
        self.numbers(lets([("a", num(1)), ("b", inner)], name("b")), (), (2,), (2, 1), (2, 2))
        self.numbers(("now", "b", ("now", "u", num(1), name("u")), num(1)), (), (1,), (1, 1))

    def test_letall_and_fun_do_not_count(self):
        program = ("letall", (("f", ("fun", "x", name("x"))), ("g", ("made", "c", ()))),
                   ("let", "a", ("fun", "x", num(1)), name("a")))
        self.numbers(program, (), (1,))

    def test_behind_a_call(self):
        body = lets([("u", num(1))], name("u"))
        program = ("letall", (("f", ("fun", "x", body)),), ("let", "a", num(1), ("call", "f", "a")))
        self.numbers(program, (), (2,))
        twice = ("letall", (("f", ("fun", "x", lets([("u", num(1))], ("call", "g", "u")))),
                            ("g", ("fun", "y", lets([("v", name("y"))], name("v"))))), ("call", "f", "f"))
        self.numbers(twice, (), (1,), (2,))
        # The going of the one that calls, not that of the fun.
        fun = lets([("h", num(1))], ("fun", "x", lets([("i", num(2))], name("i"))))
        self.numbers(lets([("f", fun)], ("call", "f", "f")), (), (1,), (2,))

    def test_behind_a_branch_and_a_name(self):
        made = ("made", "c", ())
        program = lets([("x", made)], pick("x", ("c", (), lets([("u", num(1))], name("u")))))
        self.numbers(program, (), (1,), (2,))
        program = lets([("a", lets([("u", num(1))], name("u"))), ("b", name("a"))], name("b"))
        self.numbers(program, (), (1,), (1, 1), (2,))

    def test_a_hundred_parts(self):
        for run in RUNS:
            self.assertEqual(run(deep(99), 1, limit=10 ** 6), (7, 100))
            with self.assertRaises(TooMany):
                run(deep(100), 1, limit=10 ** 6)
        self.assertEqual(max(len(row[0]) for row in rows(deep(99), 1)), 100)
        with self.assertRaises(TooMany):
            rows(deep(100), 1, limit=10 ** 6)

    def test_the_number_of_a_now_counts_too_and_one_that_nothing_asks(self):
        for sort in ("let", "now"):
            body = (sort, "r", num(1), num(1))
            for _ in range(49):
                body = ("now", "r", body, num(1))
            fifty = ("fun", "x", body)
            rest = ("now", "r", ("call", "fifty", "fifty"), num(1))
            for _ in range(49):
                rest = ("now", "r", rest, num(1))
            # Fifty nows of the rest, then fifty within one another behind the call.
            for more, outcome in ((rest, "told"), (("now", "r", rest, num(1)), "TooMany")):
                program = ("let", "fifty", fifty, more)
                self.assertTrue(is_program(program))
                for run in RUNS:
                    self.assertEqual(told(run, program, 1)[0], outcome)


class PiecesTest(RunTest):

    def test_each_going_into_and_each_asking(self):
        self.takes(1, num(1))
        self.takes(1, ("fun", "x", num(1)))
        self.takes(1, ("made", "c", ()))
        self.takes(2, ("let", "a", num(1), num(1)))
        self.takes(3, ("now", "a", num(1), num(1)))
        # let, name, the asking, num
        self.takes(4, ("let", "a", num(1), name("a")))
        # two lets, sum, an asking and a num for each
        for sort in ("sum", "minus", "less", "same"):
            self.takes(7, lets([("a", num(1)), ("b", num(2))], (sort, "a", "b")))

    def test_call_by_and_letall(self):
        fun = ("fun", "x", num(1))
        # let, call, the asking of f, fun, num; x isn't asked.
        self.takes(5, ("let", "f", fun, ("call", "f", "f")))
        # letall, call, the asking of f, which stands as it is, num.
        self.takes(4, ("letall", (("f", fun),), ("call", "f", "f")))
        self.takes(2, ("letall", (("f", fun), ("g", fun)), num(1)))
        # let, by, the asking of x, made, num.
        self.takes(5, lets([("x", ("made", "c", ()))], pick("x", ("c", (), num(1)))))
        # two lets, by, the asking of x, made, name, the asking of a, num.
        self.takes(8, lets([("n", num(1)), ("x", ("made", "c", ("n",)))], pick("x", ("c", ("a",), name("a")))))

    def test_the_parts_that_a_look_asks(self):
        program = lets([("a", num(1)), ("b", num(2))], ("made", "c", ("a", "b")))
        self.takes(3, program, 1)
        self.takes(3, program, ())
        self.takes(3, program, (None, 0))
        self.takes(5, program, (1,))
        self.takes(5, program, (0, 60))
        self.takes(7, program, 2)
        # A part that stands as it is: letall, made, the asking of the part.
        self.takes(3, ("letall", (("a", ("made", "c", ("a",))),), ("made", "d", ("a",))), 2)

    def test_to_ask_again_is_a_piece_to_go_into_again_is_one_plainly(self):
        program = ("let", "a", num(1), ("sum", "a", "a"))
        self.assertEqual(fewest(plain, program, 1), 6)
        self.assertEqual(fewest(late, program, 1), 5)
        program = ("now", "a", num(1), name("a"))
        self.assertEqual(fewest(plain, program, 1), 5)
        self.assertEqual(fewest(late, program, 1), 4)

    def test_a_limit_of_none_and_one_that_is_more(self):
        for run in RUNS:
            self.assertEqual(run(num(1), None, limit=0), (None, 0))
            self.assertEqual(run(num(1), 1, limit=10 ** 12), (1, 0))
            self.assertEqual(told(run, num(1), 1, limit=0), ("TooMany",))

    def test_what_never_ends_is_too_many(self):
        loop = ("letall", (("f", ("fun", "x", ("call", "f", "x"))),), ("call", "f", "f"))
        grows = ("letall", (("f", ("fun", "x", ("let", "y", ("made", "c", ("x",)), ("call", "f", "y")))),),
                 ("call", "f", "f"))
        for program in (loop, grows):
            self.assertTrue(is_program(program))
            for run in (*RUNS, rows):
                for limit in (1, 100, 20000):
                    self.assertEqual(told(run, program, 1, limit=limit), ("TooMany",))

    def test_numbers_just_inside_and_beyond(self):
        # Late alone: plainly such a number takes more pieces than there are.
        most = 10 ** 60 - 1
        self.assertTrue(is_program(nines(name("n"))))
        self.assertEqual(late(nines(name("n")), 1)[0], most)
        below = ("let", "m", ("minus", "zero", "n"), name("m"))
        self.assertEqual(late(nines(below), 1)[0], -most)
        for sort, x, y in (("sum", "n", "one"), ("sum", "one", "n"), ("sum", "n", "n"), ("minus", "m", "one"),
                           ("minus", "m", "n"), ("sum", "m", "m"), ("minus", "n", "less")):
            program = nines(lets([("m", ("minus", "zero", "n")), ("less", ("minus", "zero", "one"))], (sort, x, y)))
            self.assertTrue(is_program(program))
            self.assertEqual(told(late, program, 1), ("TooMany",))
            self.assertEqual(told(rows, program, 1), ("TooMany",))
        for sort, x, y, worth in (("sum", "n", "m", 0), ("minus", "n", "one", most - 1), ("sum", "m", "one", 1 - most),
                                  ("less", "m", "n", YES), ("same", "n", "n", YES), ("minus", "n", "zero", most)):
            program = nines(lets([("m", ("minus", "zero", "n"))], (sort, x, y)))
            self.assertEqual(late(program, 1)[0], worth)


class LooksTest(RunTest):

    INNER = lets([("one", num(1)), ("two", num(2)), ("f", ("fun", "x", num(1))), ("in", ("made", "d", ("one", "two"))),
                  ("more", ("made", "e", ("in",)))], ("made", "c", ("more", "f", "in")))

    def looked(self, look, seen, program=INNER):
        self.sees(program, seen, 0, look)

    def test_not_looked_at(self):
        self.looked(None, None)
        self.looked(0, None)
        stuck = ("let", "n", num(1), ("call", "n", "n"))
        for run in RUNS:
            for look in (None, 0):
                self.assertEqual(run(stuck, look, limit=0), (None, 0))
        for look in (None, 0):
            self.assertEqual(rows(stuck, look, limit=0), [])

    def test_whole_numbers(self):
        self.looked(1, ("c", (None, None, None)))
        self.looked(2, ("c", (("e", (None,)), ("fun",), ("d", (None, None)))))
        self.looked(3, ("c", (("e", (("d", (None, None)),)), ("fun",), ("d", (1, 2)))))
        self.looked(4, ("c", (("e", (("d", (1, 2)),)), ("fun",), ("d", (1, 2)))))
        self.looked(60, ("c", (("e", (("d", (1, 2)),)), ("fun",), ("d", (1, 2)))))

    def test_sixty(self):
        ones = lets([("one", num(1))], ("letall", (("ones", ("made", "cons", ("one", "ones"))),), name("ones")))
        for look in (1, 2, 59, 60):
            seen = None
            for at in range(look):
                seen = ("cons", (1 if at else None, seen))
            self.looked(look, seen, ones)

    def test_tuples(self):
        self.looked((), ("c", (None, None, None)))
        self.looked((None, None, None), ("c", (None, None, None)))
        self.looked((1,), ("c", (("e", (None,)), None, None)))
        self.looked((0, 0, 2), ("c", (None, None, ("d", (1, 2)))))
        self.looked((None, (), (None, 1)), ("c", (None, ("fun",), ("d", (None, 2)))))
        self.looked((((1, 0),),), ("c", (("e", (("d", (1, None)),)), None, None)))

    def test_what_is_beyond_is_nothing(self):
        self.looked((0, 1, 0, 60, (60,), None), ("c", (None, ("fun",), None)))
        for look in ((), (1,), (1, (60,)), 60):
            self.looked(look, 5, num(5))
            self.looked(look, ("fun",), ("fun", "x", name("x")))
            self.looked(look, ("c", ()), ("made", "c", ()))

    def test_the_head_first_then_the_parts_from_the_left_each_whole(self):
        left = lets([("s", ("call", "n", "n"))], ("made", "d", ("s",)))
        program = lets([("n", num(1)), ("left", left), ("right", ("call", "n", "n"))],
                       ("made", "c", ("left", "right")))
        for look, number in ((3, (2, 1)), (2, (3,)), ((1, 1), (3,)), ((2, 1), (2, 1)), ((None, 1), (3,)),
                             (((1,),), (2, 1))):
            self.sticks(program, number, look)
        self.sees(program, ("c", (("d", (None,)), None)), 0, (1,))
        head = lets([("n", num(1)), ("s", ("call", "n", "n"))], ("call", "n", "s"))
        self.sticks(head, (), 60)

    def test_a_tuple_as_deep_as_may_be(self):
        ring = ("letall", (("a", ("made", "c", ("a",))),), name("a"))
        look, seen = 1, ("c", (None,))
        for _ in range(9):
            look, seen = (look,), ("c", (seen,))
        self.looked(look, seen, ring)

    def test_somewhat_beyond_is_no_error(self):
        ring = ("letall", (("a", ("made", "c", ("a",))),), name("a"))
        for look in (61, 100):
            seen = None
            for _ in range(look):
                seen = ("c", (seen,))
            self.looked(look, seen, ring)
        # A program of more pieces, and of more within one another.
        for run in RUNS:
            self.assertEqual(run(unused(400, num(7)), 1), (7, 0))


class PlainTest(RunTest):

    def test_a_reckoning_asked_twice_is_gone_into_twice(self):
        fun = ("fun", "x", num(4))
        for many in range(4):
            body = num(0)
            for _ in range(many):
                body = ("now", "u", name("r"), body)
            program = lets([("f", fun), ("r", ("call", "f", "f"))], body)
            self.assertEqual(plain(program, 1), (0, many))
            self.assertEqual(late(program, 1), (0, min(many, 1)))
        program = lets([("f", fun), ("r", ("call", "f", "f"))], ("made", "c", ("r", "r", "r")))
        self.assertEqual(plain(program, 2), (("c", (4, 4, 4)), 3))
        self.assertEqual(late(program, 2), (("c", (4, 4, 4)), 1))

    def test_the_lets_come_up_anew_with_the_same_numbers(self):
        base = [("n", num(1)), ("a", lets([("s", ("call", "n", "n"))], ("made", "c", ("s",))))]
        body = pick("a", ("c", ("p",), pick("a", ("c", ("q",), name("q")))))
        self.sticks(lets(base, body), (2, 1))
        self.sticks(lets(base, pick("a", ("c", ("p",), pick("a", ("c", ("q",), name("p")))))), (2, 1))
        # What is asked twice counts no lets of the one that asks it.
        self.sticks(lets(base, ("now", "u", name("a"), ("now", "v", name("a"), ("call", "n", "n")))), ())
        self.sticks(lets(base, ("now", "u", name("a"), ("now", "v", name("a"), lets(
            [("w", ("call", "n", "n"))], name("w"))))), (5,))

    def test_a_now_is_reckoned_and_gone_into_once_more_when_asked(self):
        base = [("f", ("fun", "x", num(4)))]
        for body, steps in ((num(0), 1), (name("r"), 2), (("sum", "r", "r"), 3)):
            program = lets(base, ("now", "r", ("call", "f", "f"), body))
            self.assertEqual(plain(program, 1)[1], steps)
            self.assertEqual(late(program, 1)[1], 1)

    def test_the_told(self):
        answer = plain(num(1), 1)
        self.assertIs(type(answer), tuple)
        self.assertEqual(answer, (1, 0))
        self.assertIs(type(answer[1]), int)
