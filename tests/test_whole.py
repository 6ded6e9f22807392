"""Points 1 to 3: what holds of the late run and the plain one, over many programs."""

import copy
import sys
import unittest

from owedonce.late import late, rows
from owedonce.plainly import plain
from owedonce.terms import is_program, is_term
from tests.helper import (Chance, lasting, lets, name, num, other_late, other_plain, other_rows, pick, told)

SEEDS = range(1500)


def chances():
    """Programs, looks and limits, the same ones each time."""
    for seed in SEEDS:
        chance = Chance(seed)
        program = chance.program()
        if is_program(program):
            yield program, chance.look(), chance.random.choice((5, 20, 60, 200, 1000))


def sees_more(look):
    """Looks that see at least what a look sees."""
    if look is None:
        return [0, (), 1]
    if isinstance(look, int):
        return [look + 1, look + 7]
    return [(*look, 1), (*look, None, (2,)), tuple(3 if part is None else part for part in look)]


class SameTest(unittest.TestCase):

    @classmethod
    def setUpClass(cls):
        cls.before = sys.getrecursionlimit()
        # For the other reckoner: it goes into what is asked by Python's own calls.
        sys.setrecursionlimit(20000)

    @classmethod
    def tearDownClass(cls):
        sys.setrecursionlimit(cls.before)

    def test_told_and_refused_as_by_another_reckoner(self):
        outcomes = set()
        for program, look, limit in chances():
            for run, other in ((plain, other_plain), (late, other_late), (rows, other_rows)):
                one = told(run, program, look, limit=limit)
                self.assertEqual(one, told(other, program, look, limit), (run, program, look, limit))
                outcomes.add((run, one[0]))
        self.assertEqual(len(outcomes), 9)

    def test_late_tells_what_the_plain_run_tells_in_no_more_steps(self):
        fewer = 0
        for program, look, limit in chances():
            one = told(plain, program, look, limit=limit)
            other = told(late, program, look, limit=limit)
            if one[0] == "told":
                self.assertEqual(other[0], "told")
                self.assertEqual(other[1][0], one[1][0])
                self.assertLessEqual(other[1][1], one[1][1])
                fewer += other[1][1] < one[1][1]
            if one[0] == "Stuck":
                self.assertEqual(one, other)
        self.assertGreater(fewer, 10)

    def test_rows_are_of_one_number_each_and_their_steps_are_all(self):
        for program, look, limit in chances():
            one = told(rows, program, look, limit=limit)
            run = told(late, program, look, limit=limit)
            if run[0] != "told":
                self.assertEqual(one, run)
                continue
            numbers = [row[0] for row in one[1]]
            self.assertEqual(numbers, sorted(set(numbers)))
            self.assertEqual(sum(row[1] for row in one[1]), run[1][1])
            for number, _, asked in one[1]:
                self.assertEqual(asked, sorted(set(asked)))
                for other in asked:
                    self.assertIn(other, numbers)
                    # Put by ahead of it, or within it.
                    self.assertTrue(other < number or other[:len(number)] == number, (number, other))

    def test_a_look_that_sees_more_has_all_rows(self):
        for program, look, _ in chances():
            if told(rows, program, look)[0] == "told":
                fewer = rows(program, look)
                for more in sees_more(look):
                    one = told(rows, program, more)
                    if one[0] == "told":
                        for row in fewer:
                            self.assertIn(row, one[1])

    def test_nothing_that_is_handed_in_is_changed(self):
        for program, look, limit in list(chances())[:200]:
            kept = copy.deepcopy((program, look))
            first = [told(run, program, look, limit=limit) for run in (plain, late, rows)]
            self.assertEqual((program, look), kept)
            self.assertEqual([told(run, program, look, limit=limit) for run in (plain, late, rows)], first)


class NowsTest(unittest.TestCase):

    FUN = ("fun", "x", ("sum", "x", "x"))

    def same(self, build, look=2):
        """A let made now, of what surely is asked: seen, steps, own steps, limit stay."""
        one, other = build("let"), build("now")
        self.assertTrue(is_program(one) and is_program(other))
        self.assertEqual(late(one, look), late(other, look))
        self.assertEqual([row[:2] for row in rows(one, look)], [row[:2] for row in rows(other, look)])
        for limit in range(40):
            self.assertEqual(told(late, one, look, limit=limit), told(late, other, look, limit=limit))

    def test_lets_made_now_change_nothing(self):
        base = [("f", self.FUN), ("n", num(3))]
        call = ("call", "f", "n")
        self.same(lambda sort: lets(base, (sort, "a", call, name("a"))))
        self.same(lambda sort: lets(base, (sort, "a", call, ("sum", "n", "a"))))
        self.same(lambda sort: lets(base, (sort, "a", call, ("let", "b", ("sum", "a", "a"), ("sum", "b", "a")))))
        self.same(lambda sort: lets(base, (sort, "a", call, (sort, "b", ("sum", "a", "a"), name("b")))))
        self.same(lambda sort: lets(base, (sort, "a", ("made", "c", ("n",)), pick("a", ("c", ("p",), name("p"))))))
        self.same(lambda sort: lets(base, (sort, "g", self.FUN, ("call", "g", "n"))))


class WholeNumbersTest(unittest.TestCase):

    def test_truths_are_no_whole_numbers(self):
        for truth in (True, False):
            self.assertIs(is_term(("num", truth)), False)
            self.assertIs(is_program(("fun", "x", ("num", truth))), False)
        for n in (0, 1):
            self.assertIs(is_term(("num", n)), True)

    def test_told_numbers_are_whole_numbers(self):
        for run in (plain, late):
            for worth in run(lasting(50), 1):
                self.assertIs(type(worth), int)
            seen = run(lets([("a", num(1)), ("b", num(0))], ("made", "c", ("a", "b"))), 2)[0]
            self.assertEqual([type(part) for part in seen[1]], [int, int])
