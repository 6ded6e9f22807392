"""Point 9: late, its rows, askings far within one another, the limit that isn't told."""

import unittest

from owedonce.errors import Stuck, TooMany
from owedonce.late import late, rows
from owedonce.plainly import plain
from owedonce.terms import is_program
from tests.helper import lasting, lets, name, nested, num, pick, told, unused

FUN = ("fun", "x", num(4))


class LateTest(unittest.TestCase):

    def test_the_example(self):
        program = ("let", "a", ("num", 1), ("let", "b", ("sum", "a", "a"), ("made", "c", ("b", "a"))))
        self.assertEqual(late(program, 2), (("c", (2, 1)), 0))
        self.assertEqual(rows(program, 2), [((), 0, []), ((1,), 0, []), ((2,), 0, [(1,)])])

    def test_a_reckoning_asked_twice_is_gone_into_once(self):
        program = lets([("f", FUN), ("r", ("call", "f", "f")), ("s", ("sum", "r", "r"))], ("sum", "s", "r"))
        self.assertEqual(late(program, 1), (12, 1))
        self.assertEqual(plain(program, 1), (12, 3))
        # Its worth is kept under each name that stands for it: x, and p, stand for r.
        both = lets([("f", FUN), ("r", ("call", "f", "f")), ("b", ("made", "c", ("r", "r"))),
                     ("g", ("fun", "x", pick("b", ("c", ("p", "q"), ("sum", "x", "p")))))], ("call", "g", "r"))
        self.assertEqual(late(both, 1), (8, 2))
        self.assertEqual(plain(both, 1), (8, 3))

    def test_what_is_thrown_away_takes_no_steps(self):
        program = lets([("f", FUN), ("r", ("call", "f", "f"))], num(1))
        self.assertEqual(late(program, 1), (1, 0))
        self.assertEqual(rows(program, 1), [((), 0, [])])

    def test_all_worths_are_kept(self):
        zero = ("fun", "x", num(0))
        for worth, seen in ((num(0), 0), (("made", "c", ()), ("c", ())), (FUN, ("fun",))):
            program = lets([("f", zero), ("r", ("now", "s", ("call", "f", "f"), worth))], ("made", "d", ("r", "r")))
            self.assertEqual(late(program, 2), (("d", (seen, seen)), 1))
            self.assertEqual(plain(program, 2), (("d", (seen, seen)), 2))

    def test_the_told(self):
        answer = late(num(1), 1)
        self.assertIs(type(answer), tuple)
        self.assertEqual(answer, (1, 0))


class RowsTest(unittest.TestCase):

    def are(self, program, look, *wanted):
        self.assertTrue(is_program(program), program)
        self.assertEqual(rows(program, look), list(wanted))
        self.assertEqual(late(program, look)[1], sum(row[1] for row in wanted))

    def test_where_nothing_is_looked_at(self):
        for look in (None, 0):
            self.are(num(1), look)
            self.are(lets([("n", num(1))], ("call", "n", "n")), look)

    def test_the_program_alone(self):
        for look in (1, 60, (), (1,)):
            self.are(num(1), look, ((), 0, []))

    def test_own_steps_are_those_in_the_going(self):
        program = lets([("f", FUN), ("a", ("call", "f", "f")), ("b", lets([("c", ("call", "f", "a"))], (
            "sum", "c", "a")))], ("call", "f", "b"))
        self.are(program, 1, ((), 1, [(1,)]), ((1,), 0, []))
        program = lets([("f", FUN), ("a", ("call", "f", "f")), ("b", lets([("c", ("call", "f", "a"))], (
            "sum", "c", "a")))], ("sum", "b", "a"))
        self.are(program, 1, ((), 0, [(2,), (3,)]), ((1,), 0, []), ((2,), 1, [(1,)]),
                 ((3,), 0, [(2,), (3, 1)]), ((3, 1), 1, [(1,)]))
        twice = ("fun", "x", lets([("u", ("call", "f", "x"))], ("call", "f", "u")))
        self.are(lets([("f", FUN), ("g", twice)], ("call", "g", "f")), 1,
                 ((), 2, [(1,), (2,)]), ((1,), 0, []), ((2,), 0, []))

    def test_asked_are_those_ready_or_not(self):
        program = lets([("a", num(1)), ("b", name("a"))], ("sum", "a", "b"))
        self.are(program, 1, ((), 0, [(1,), (2,)]), ((1,), 0, []), ((2,), 0, [(1,)]))
        program = lets([("a", num(1)), ("b", name("a"))], ("sum", "b", "a"))
        self.are(program, 1, ((), 0, [(1,), (2,)]), ((1,), 0, []), ((2,), 0, [(1,)]))

    def test_asked_each_once_rising(self):
        many = [(letter, num(1)) for letter in "abcdefghijkl"]
        ask = num(0)
        for letter in "lkblajk":
            ask = ("now", "z", name(letter), ask)
        program = lets([*many, ("s", lets([("t", ("sum", "l", "b"))], ("sum", "t", "j")))], ("sum", "s", "b"))
        self.are(program, 1, ((), 0, [(2,), (13,)]), ((2,), 0, []), ((10,), 0, []), ((12,), 0, []),
                 ((13,), 0, [(10,), (13, 1)]), ((13, 1), 0, [(2,), (12,)]))

    def test_nows_are_asked_by_the_going_they_come_up_in(self):
        self.are(("now", "a", num(1), num(2)), 1, ((), 0, [(1,)]), ((1,), 0, []))
        self.are(("now", "a", ("now", "b", num(1), num(3)), name("a")), 1,
                 ((), 0, [(1,)]), ((1,), 0, [(1, 1)]), ((1, 1), 0, []))
        program = lets([("f", ("fun", "x", ("now", "u", name("x"), num(5)))), ("a", num(1))], ("call", "f", "a"))
        self.are(program, 1, ((), 1, [(1,), (3,)]), ((1,), 0, []), ((2,), 0, []), ((3,), 0, [(2,)]))

    def test_what_stands_as_it_is_has_no_number(self):
        program = ("letall", (("f", FUN), ("m", ("made", "c", ("f", "n")))), lets(
            [("a", pick("m", ("c", ("p", "q"), ("call", "p", "q"))))], name("a")))
        program = ("let", "n", num(1), program)
        self.are(program, 1, ((), 0, [(2,)]), ((2,), 1, []))

    def test_what_a_look_asks_no_going_asks(self):
        program = lets([("a", num(1)), ("b", lets([("c", name("a"))], ("made", "d", ("c", "a"))))],
                       ("made", "e", ("b", "a")))
        self.are(program, 1, ((), 0, []))
        self.are(program, (1,), ((), 0, []), ((2,), 0, []))
        self.are(program, ((None, 1),), ((), 0, []), ((1,), 0, []), ((2,), 0, []))
        self.are(program, 3, ((), 0, []), ((1,), 0, []), ((2,), 0, []), ((2, 1), 0, [(1,)]))

    def test_rising_as_python_sorts(self):
        body = ("made", "c", ("k", "b", "a"))
        inner = lets([("p", num(1)), ("q", num(2))], ("sum", "q", "p"))
        program = lets([(letter, inner if letter in "abk" else num(0)) for letter in "abcdefghijk"], body)
        numbers = [row[0] for row in rows(program, 2)]
        self.assertEqual(numbers, [(), (1,), (1, 1), (1, 2), (2,), (2, 1), (2, 2), (11,), (11, 1), (11, 2)])

    def test_the_told_lists_are_the_askers_own(self):
        program = lets([("a", num(1)), ("b", name("a"))], name("b"))
        once = rows(program, 1)
        self.assertIs(type(once), list)
        for number, steps, asked in once:
            self.assertIs(type(number), tuple)
            self.assertIs(type(asked), list)
            asked.append("more")
        once.clear()
        self.assertEqual(rows(program, 1), [((), 0, [(2,)]), ((1,), 0, []), ((2,), 0, [(1,)])])
        rows(program, 0).append("more")
        self.assertEqual(rows(program, 0), [])

    def test_refused_as_late_is(self):
        program = lets([("n", num(1))], ("call", "n", "n"))
        with self.assertRaises(Stuck) as caught:
            rows(program, 1)
        self.assertEqual(caught.exception.number, ())
        with self.assertRaises(TooMany):
            rows(program, 1, limit=3)


class FarTest(unittest.TestCase):

    def test_askings_some_thousand_within_one_another(self):
        program = nested(12)
        self.assertTrue(is_program(program))
        self.assertEqual(late(program, 1, limit=10 ** 6), (4096, 8191))
        self.assertEqual(plain(program, 1, limit=10 ** 6), (4096, 8191))
        # Each let stands in the row of what asks it, and has a row of its own.
        told_rows = rows(program, 1, limit=10 ** 6)
        self.assertEqual(len(told_rows), 4096 + 2)
        self.assertEqual(len(set(row[0] for row in told_rows)), len(told_rows))

    def test_a_chain_that_a_loop_puts_by(self):
        again = lets([("j", ("minus", "k", "one")), ("t", ("sum", "s", "one"))], ("now", "i", name("j"), lets(
            [("g", ("call", "loop", "i"))], ("call", "g", "t"))))
        body = ("let", "end", ("less", "k", "one"), pick("end", ("yes", (), name("s")), ("no", (), again)))
        loop = ("letall", (("loop", ("fun", "k", ("fun", "s", body))),), lets(
            [("k", num(5000)), ("g", ("call", "loop", "k"))], ("call", "g", "zero")))
        program = lets([("one", num(1)), ("zero", num(0))], loop)
        self.assertTrue(is_program(program))
        self.assertEqual(late(program, 1, limit=10 ** 6), (5000, 10002))


class LimitTest(unittest.TestCase):

    def test_twenty_thousand_where_none_is_told(self):
        just, more = lasting(20000), lasting(20001)
        for program in (just, more):
            self.assertTrue(is_program(program))
        for run in (plain, late, rows):
            run(just, 1)
            with self.assertRaises(TooMany):
                run(more, 1)
            self.assertEqual(told(run, just, 1, limit=20000), ("told", run(just, 1)))
            self.assertEqual(told(run, just, 1, limit=19999), ("TooMany",))
            self.assertEqual(told(run, more, 1, limit=20001)[0], "told")
            self.assertEqual(told(run, more, 1, limit=10 ** 9)[0], "told")
        self.assertEqual(plain(more, 1, limit=20001), late(more, 1, limit=20001))

    def test_just_as_many_pieces_as_a_limit_lets_by(self):
        for pieces in (*range(3, 40), 100, 777):
            program = lasting(pieces)
            for run in (plain, late, rows):
                self.assertEqual(told(run, program, 1, limit=pieces)[0], "told")
                self.assertEqual(told(run, program, 1, limit=pieces - 1), ("TooMany",))

    def test_the_limit_is_told_by_name_alone(self):
        for run in (plain, late, rows):
            with self.assertRaises(TypeError):
                run(num(1), 1, 20)
            self.assertEqual(run(limit=20, look=1, program=num(1)), run(num(1), 1))
            self.assertEqual(run(program=unused(3, num(1)), look=1), run(unused(3, num(1)), 1))
