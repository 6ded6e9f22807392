"""Points 10 and 11: runs by seers, the least of them, and all."""

import unittest

from owedonce.errors import Lost, Stuck, TooMany
from owedonce.late import late, rows
from owedonce.seers import all_seers, least, seer, seer_rows
from owedonce.terms import is_program
from tests.helper import (
    Reckoner, ReckonerTest, deep, fewest, lasting, lets, name, nested, nines, num, pick, told, unused)

FUN = ("fun", "x", num(4))
CALL = ("call", "f", "f")
# A let that late goes into, one within it, one that it throws away, and a now.
MIXED = lets([("f", FUN), ("a", lets([("b", CALL), ("c", CALL)], ("sum", "b", "b"))), ("d", CALL)],
             ("now", "e", CALL, ("sum", "a", "e")))
MIXED_LETS = [(1,), (2,), (2, 1)]


def ways(program, look, **named):
    return sorted(all_seers(program, look, **named), key=lambda way: way[0])


class SeerTest(unittest.TestCase):

    def sees(self, program, numbers, seen, steps, look=60):
        self.assertTrue(is_program(program), program)
        self.assertEqual(seer(program, numbers, look), (seen, steps))

    def loses(self, program, numbers, number, look=60):
        self.assertTrue(is_program(program), program)
        for run in (seer, seer_rows):
            with self.assertRaises(Lost) as caught:
                run(program, numbers, look)
            self.assertEqual(caught.exception.number, number)

    def test_by_all_numbers_of_the_late_run(self):
        self.assertEqual(late(MIXED, 1), (12, 2))
        self.sees(MIXED, MIXED_LETS, 12, 2)

    def test_by_all_but_one(self):
        for number in MIXED_LETS:
            self.loses(MIXED, [one for one in MIXED_LETS if one != number], number)

    def test_by_some_beyond(self):
        self.sees(MIXED, [*MIXED_LETS, (2, 2)], 12, 3)
        self.sees(MIXED, [*MIXED_LETS, (3,)], 12, 3)
        self.sees(MIXED, [*MIXED_LETS, (2, 2), (3,)], 12, 4)

    def test_by_none(self):
        self.loses(MIXED, [], (1,))
        self.sees(num(1), [], 1, 0)
        self.sees(lets([("f", FUN), ("a", CALL)], num(1)), [], 1, 0)
        self.sees(("letall", (("f", FUN),), ("now", "a", CALL, name("a"))), [], 4, 1)

    def test_numbers_that_do_not_come_up_those_of_nows_twice_in_any_order(self):
        for numbers in ([(9,), (2, 1), (1,), (2,)], [(2,), (1,), (2, 1), (3, 1), (1, 1, 1), ()],
                        [*MIXED_LETS, (4,)], [(2,), (2, 1), (2,), (1,), (1,)], list(reversed(MIXED_LETS)),
                        [*MIXED_LETS, (4,), (4,), (4, 1), tuple(range(300))]):
            self.sees(MIXED, numbers, 12, 2)
            self.assertEqual(seer_rows(MIXED, numbers, 1), seer_rows(MIXED, MIXED_LETS, 1))

    def test_at_once_within_at_once(self):
        inner = lets([("b", lets([("c", CALL)], name("c")))], name("b"))
        program = lets([("f", FUN), ("a", inner)], name("a"))
        self.sees(program, [(1,), (2,), (2, 1), (2, 1, 1)], 4, 1)
        self.loses(program, [(1,), (2,), (2, 1)], (2, 1, 1))
        self.loses(program, [(1,), (2,), (2, 1, 1)], (2, 1))
        self.loses(program, [(1,), (2, 1), (2, 1, 1)], (2,))
        self.loses(program, [(2,), (2, 1), (2, 1, 1)], (1,))
        # What is thrown away brings no lets up.
        program = lets([("f", FUN), ("a", inner)], name("f"))
        self.assertEqual(seer(program, [(1,), (2, 1), (2, 1, 1)], 1), (("fun",), 0))
        self.assertEqual(seer(program, [(1,), (2,), (2, 1), (2, 1, 1)], 1), (("fun",), 1))

    def test_at_once_is_ahead_of_what_follows(self):
        stuck = ("call", "n", "n")
        program = lets([("n", num(1)), ("s", stuck), ("t", stuck)], stuck)
        for numbers, number in (([(1,)], ()), ([(1,), (2,)], (2,)), ([(1,), (3,)], (3,)), ([(1,), (2,), (3,)], (2,))):
            self.assertEqual(told(seer, program, numbers, 1), ("Stuck", number))
            self.assertEqual(told(seer_rows, program, numbers, 1), ("Stuck", number))
        self.loses(program, [(2,)], (1,))

    def test_a_now_is_reckoned_whatever_the_numbers(self):
        program = ("letall", (("f", FUN),), ("now", "a", CALL, ("now", "b", CALL, name("b"))))
        for numbers in ([], [(1,)], [(2,)], [(1,), (2,)]):
            self.sees(program, numbers, 4, 2)
        # A now within what is thrown away doesn't come up.
        program = ("letall", (("f", FUN),), ("let", "a", ("now", "b", CALL, CALL), num(1)))
        self.sees(program, [(1, 1)], 1, 0)
        self.sees(program, [(1,)], 1, 2)

    def test_it_is_gone_into_once_and_kept(self):
        program = lets([("f", FUN), ("r", CALL)], ("made", "c", ("r", "r")))
        self.sees(program, [(1,), (2,)], ("c", (4, 4)), 1)

    def test_lost_by_a_look_by_a_call_by_a_branch(self):
        made = lets([("f", FUN), ("a", num(1)), ("m", ("made", "c", ("a", "f")))], name("m"))
        self.loses(made, [(1,), (3,)], (2,))
        self.assertEqual(seer(made, [(3,)], 1), (("c", (None, None)), 0))
        self.assertEqual(seer(made, [(1,), (3,)], (0, 1)), (("c", (None, ("fun",))), 0))
        self.loses(made, [(2,), (3,)], (1,))
        self.loses(lets([("f", FUN)], CALL), [], (1,))
        self.loses(lets([("m", ("made", "c", ()))], pick("m", ("c", (), num(1)))), [], (1,))
        self.loses(lets([("a", num(1)), ("b", num(2))], ("sum", "a", "b")), [(1,)], (2,))
        # Handed in, it isn't asked.
        self.sees(lets([("f", FUN), ("a", num(1))], ("call", "f", "a")), [(1,)], 4, 1)

    def test_where_nothing_is_looked_at(self):
        for look in (None, 0):
            for numbers in ([], [(1,)]):
                self.assertEqual(seer(MIXED, numbers, look, limit=0), (None, 0))
                self.assertEqual(seer_rows(MIXED, numbers, look, limit=0), [])

    def test_the_told(self):
        answer = seer(MIXED, MIXED_LETS, 1)
        self.assertIs(type(answer), tuple)
        self.assertIs(type(answer[1]), int)


class FirstRefusalTest(unittest.TestCase):

    def refuses(self, program, numbers, pieces, refusal):
        """Refused by the piece of that number, and with one fewer TooMany."""
        self.assertTrue(is_program(program), program)
        for run in (seer, seer_rows):
            self.assertEqual(told(run, program, numbers, 1, limit=pieces), refusal)
            self.assertEqual(told(run, program, numbers, 1), refusal)
            self.assertEqual(told(run, program, numbers, 1, limit=pieces - 1), ("TooMany",))

    def test_lost_stuck_too_many_whichever_comes_first(self):
        # let, name, the asking of a, which is thrown away.
        self.refuses(("let", "a", num(1), name("a")), [], 3, ("Lost", (1,)))
        # let, fun, let, call, the asking of f, fun's worth kept: x isn't asked; then it is.
        self.refuses(lets([("f", ("fun", "x", name("x"))), ("a", num(1))], ("call", "f", "a")), [(1,)], 7,
                     ("Lost", (2,)))
        base = [("n", num(1)), ("a", num(2))]
        stuck, lost = ("call", "n", "n"), name("a")
        self.refuses(lets(base, ("now", "s", stuck, lost)), [(1,)], 6, ("Stuck", (3,)))
        self.refuses(lets(base, ("now", "s", lost, stuck)), [(1,)], 6, ("Lost", (2,)))
        self.refuses(lets([*base, ("s", stuck)], lost), [(1,), (3,)], 6, ("Stuck", (3,)))
        self.refuses(lets([*base, ("s", stuck)], lost), [(1,)], 6, ("Lost", (2,)))
        # The first number is asked, and the second thing is, ahead of what is done with both.
        self.refuses(lets([("f", FUN), ("a", num(1))], ("sum", "f", "a")), [(1,)], 5, ("Stuck", ()))
        self.refuses(lets([("f", FUN), ("a", num(1))], ("sum", "a", "f")), [(1,)], 5, ("Lost", (2,)))

    def test_too_many_by_a_run_that_never_ends(self):
        loop = ("letall", (("f", ("fun", "x", ("call", "f", "x"))),), ("let", "a", ("call", "f", "f"), num(1)))
        self.assertEqual(seer(loop, [], 1), (1, 0))
        self.assertEqual(told(seer, loop, [(1,)], 1), ("TooMany",))
        self.assertEqual(told(seer, ("now", "z", num(0), loop), [(1,)], 1), ("told", (1, 0)))


class SeerRowsTest(unittest.TestCase):

    def are(self, program, numbers, look, *wanted):
        self.assertTrue(is_program(program), program)
        self.assertEqual(seer_rows(program, numbers, look), list(wanted))
        self.assertEqual(seer(program, numbers, look)[1], sum(row[1] for row in wanted))

    def test_all_goings_that_were_gone_into(self):
        late_rows = [((), 0, [(2,), (4,)]), ((1,), 0, []), ((2,), 0, [(2, 1)]), ((2, 1), 1, [(1,)]), ((4,), 1, [(1,)])]
        self.assertEqual(rows(MIXED, 1), late_rows)
        self.are(MIXED, MIXED_LETS, 1, *late_rows)
        self.are(MIXED, [*MIXED_LETS, (3,), (2, 2)], 1, *late_rows[:4], ((2, 2), 1, [(1,)]), ((3,), 1, [(1,)]),
                 late_rows[4])

    def test_what_is_at_once_is_not_asked_by_that(self):
        program = ("let", "a", num(1), num(2))
        self.are(program, [], 1, ((), 0, []))
        self.are(program, [(1,)], 1, ((), 0, []), ((1,), 0, []))
        self.are(("let", "a", num(1), name("a")), [(1,)], 1, ((), 0, [(1,)]), ((1,), 0, []))
        program = ("let", "a", ("let", "b", num(1), num(2)), num(3))
        self.are(program, [(1,), (1, 1)], 1, ((), 0, []), ((1,), 0, []), ((1, 1), 0, []))

    def test_nows_are_asked_as_late(self):
        self.are(("now", "a", num(1), num(2)), [], 1, ((), 0, [(1,)]), ((1,), 0, []))
        self.are(("let", "b", ("now", "a", num(1), num(2)), num(3)), [(1,)], 1,
                 ((), 0, []), ((1,), 0, [(1, 1)]), ((1, 1), 0, []))

    def test_own_steps(self):
        program = lets([("f", FUN), ("a", lets([("b", CALL)], ("call", "f", "b")))], CALL)
        self.are(program, [(1,), (2,), (2, 1)], 1,
                 ((), 1, [(1,)]), ((1,), 0, []), ((2,), 1, [(1,)]), ((2, 1), 1, [(1,)]))

    def test_the_told_lists_are_the_askers_own(self):
        wanted = seer_rows(MIXED, MIXED_LETS, 1)
        once = seer_rows(MIXED, MIXED_LETS, 1)
        self.assertIs(type(once), list)
        for number, _, asked in once:
            self.assertIs(type(number), tuple)
            asked.append("more")
        once.clear()
        self.assertEqual(seer_rows(MIXED, MIXED_LETS, 1), wanted)


class LeastTest(unittest.TestCase):

    def is_least(self, program, look, numbers, steps):
        self.assertTrue(is_program(program), program)
        self.assertEqual(least(program, look), (numbers, steps))
        self.assertEqual(late(program, look)[1], steps)
        self.assertEqual(seer(program, numbers, look), late(program, look))
        for at, number in enumerate(numbers):
            self.assertEqual(told(seer, program, numbers[:at] + numbers[at + 1:], look), ("Lost", number))

    def test_lets_and_no_nows(self):
        self.is_least(MIXED, 1, MIXED_LETS, 2)
        self.is_least(num(1), 1, [], 0)
        self.is_least(("now", "a", num(1), name("a")), 1, [], 0)
        self.is_least(("now", "a", lets([("b", num(1))], name("b")), name("a")), 1, [(1, 1)], 0)
        self.is_least(("let", "a", ("now", "b", num(1), name("b")), name("a")), 1, [(1,)], 0)
        self.is_least(("letall", (("f", FUN),), ("let", "a", CALL, CALL)), 1, [], 1)

    def test_by_looks_that_see_less_and_more(self):
        inner = lets([("c", CALL), ("d", CALL)], ("made", "e", ("c", "d")))
        program = lets([("f", FUN), ("a", inner), ("b", CALL)], ("made", "c", ("a", "b")))
        self.is_least(program, None, [], 0)
        self.is_least(program, 0, [], 0)
        self.is_least(program, 1, [], 0)
        self.is_least(program, (), [], 0)
        self.is_least(program, (1,), [(2,)], 0)
        self.is_least(program, (0, 1), [(1,), (3,)], 1)
        self.is_least(program, 2, [(1,), (2,), (3,)], 1)
        self.is_least(program, ((0, 1),), [(1,), (2,), (2, 2)], 1)
        self.is_least(program, 3, [(1,), (2,), (2, 1), (2, 2), (3,)], 3)

    def test_rising(self):
        program = lets([(letter, lets([("u", num(1))], name("u"))) for letter in "abcdefghijk"],
                       ("made", "c", ("k", "b", "a")))
        self.is_least(program, 2, [(1,), (1, 1), (2,), (2, 1), (11,), (11, 1)], 0)

    def test_refused_as_late_is(self):
        stuck = lets([("n", num(1)), ("s", ("call", "n", "n"))], name("s"))
        with self.assertRaises(Stuck) as caught:
            least(stuck, 1)
        self.assertEqual(caught.exception.number, (2,))
        # Two lets, name, the asking of s, call, the asking of n, num.
        self.assertEqual(told(least, stuck, 1, limit=7), ("Stuck", (2,)))
        with self.assertRaises(TooMany):
            least(stuck, 1, limit=6)
        self.assertEqual(least(stuck, None, limit=0), ([], 0))

    def test_the_told_list_is_the_askers_own(self):
        answer = least(MIXED, 1)
        self.assertIs(type(answer), tuple)
        self.assertIs(type(answer[0]), list)
        answer[0].clear()
        self.assertEqual(least(MIXED, 1), (MIXED_LETS, 2))


class AllSeersTest(unittest.TestCase):

    def are(self, program, look, *wanted):
        self.assertTrue(is_program(program), program)
        self.assertEqual(ways(program, look), list(wanted))

    def has_ways(self, program, many, look=1):
        """Just so many ways, those that are refused, too."""
        all_seers(program, look, most=many)
        for most in {0, 1, many // 2, many - 1} - {many}:
            self.assertEqual(told(all_seers, program, look, most=most), ("TooMany",))

    def test_each_choice_once(self):
        program = lets([("f", FUN), ("a", CALL), ("b", CALL)], num(7))
        # Away with f, each of the others is lost at once.
        self.are(program, 1, ([], 7, 0), ([(1,)], 7, 0), ([(1,), (2,)], 7, 1), ([(1,), (2,), (3,)], 7, 2),
                 ([(1,), (3,)], 7, 1))
        self.has_ways(program, 7)

    def test_lets_within_come_up_at_once_alone(self):
        program = ("let", "a", lets([("b", num(1)), ("c", num(2))], name("b")), num(7))
        self.are(program, 1, ([], 7, 0), ([(1,), (1, 1)], 7, 0), ([(1,), (1, 1), (1, 2)], 7, 0))
        self.has_ways(program, 5)

    def test_by_a_look(self):
        program = lets([("f", FUN), ("a", CALL)], ("made", "c", ("a", "f")))
        self.are(program, 1, ([], ("c", (None, None)), 0), ([(1,)], ("c", (None, None)), 0),
                 ([(1,), (2,)], ("c", (None, None)), 1))
        self.are(program, (0, 1), ([(1,)], ("c", (None, ("fun",))), 0), ([(1,), (2,)], ("c", (None, ("fun",))), 1))
        self.are(program, 2, ([(1,), (2,)], ("c", (4, ("fun",))), 1))
        for look in (1, (0, 1), 2):
            self.has_ways(program, 4, look)
        for look in (None, 0):
            self.are(program, look, ([], None, 0))
            self.has_ways(program, 1, look)

    def test_those_that_are_refused_are_left_out(self):
        lost = ("let", "a", num(1), name("a"))
        self.are(lost, 1, ([(1,)], 1, 0))
        self.has_ways(lost, 2)
        stuck = lets([("n", num(1)), ("s", ("call", "n", "n"))], name("n"))
        self.are(stuck, 1, ([(1,)], 1, 0))
        self.has_ways(stuck, 4)
        self.are(("let", "n", num(1), ("call", "n", "n")), 1)
        self.has_ways(("let", "n", num(1), ("call", "n", "n")), 2)

    def test_without_lets(self):
        self.are(num(5), 1, ([], 5, 0))
        self.are(("letall", (("f", FUN),), ("now", "a", CALL, name("a"))), 1, ([], 4, 1))
        for program in (num(5), ("now", "a", num(1), ("now", "b", num(2), num(3)))):
            self.has_ways(program, 1)

    def test_nows_are_no_choices_nor_numbers(self):
        program = ("letall", (("f", FUN),), ("now", "a", ("let", "b", CALL, CALL), ("let", "c", CALL, num(1))))
        self.are(program, 1, ([], 1, 1), ([(1, 1)], 1, 2), ([(1, 1), (2,)], 1, 3), ([(2,)], 1, 2))
        self.has_ways(program, 4)

    def test_numbers_rise(self):
        program = lets([("a", lets([("b", num(1))], name("b"))), *[("u", num(0))] * 10], num(1))
        told_ways = ways(program, 1, most=5000)
        self.assertEqual(len(told_ways), 2 * 2 ** 10)
        for numbers, _, _ in told_ways:
            self.assertEqual(numbers, sorted(set(numbers)))
        self.assertEqual(len({tuple(numbers) for numbers, _, _ in told_ways}), len(told_ways))
        self.has_ways(unused(3, num(1)), 8)

    def test_a_most_of_three_hundred_where_none_is_told(self):
        self.assertEqual(len(all_seers(unused(8, num(1)), 1)), 256)
        self.assertEqual(told(all_seers, unused(9, num(1)), 1), ("TooMany",))
        self.assertEqual(len(all_seers(unused(9, num(1)), 1, most=512)), 512)
        self.assertEqual(len(all_seers(self.chain(299), 1)), 1)
        self.assertEqual(told(all_seers, self.chain(300), 1), ("TooMany",))
        for many in (1, 17, 299):
            self.has_ways(self.chain(many), many + 1)

    def chain(self, k):
        """A program of k lets, each asked at once when it has come up: k + 1 ways, of which one isn't lost."""
        body = num(1)
        for _ in range(k):
            body = ("let", "a", num(1), ("now", "u", name("a"), body))
        return body

    def test_a_run_that_is_too_many(self):
        loop = ("letall", (("f", ("fun", "x", ("call", "f", "x"))),), ("let", "a", ("call", "f", "f"), num(1)))
        self.assertEqual(late(loop, 1), (1, 0))
        for limit in (3, 10, 1000):
            self.assertEqual(told(all_seers, loop, 1, limit=limit), ("TooMany",))
        program = lets([("a", num(1)), ("b", num(2))], name("a"))
        # Both at once: two lets, two nums, name, the asking of a.
        self.assertEqual(fewest(all_seers, program, 1), 6)
        self.assertEqual(fewest(late, program, 1), 5)

    def test_a_list_that_has_no_end_of_lets(self):
        grows = ("letall", (("f", ("fun", "x", ("let", "y", ("made", "c", ("x",)), ("call", "f", "y")))),),
                 ("call", "f", "f"))
        self.assertTrue(is_program(grows))
        for most in (0, 1, 2, 17, 300, 2000):
            # Without the most it would go on for as long as the limit lets it.
            self.assertEqual(told(all_seers, grows, 1, most=most, limit=10 ** 15), ("TooMany",))
        self.assertEqual(told(all_seers, grows, 1, most=10 ** 9), ("TooMany",))
        again = lets([("m", ("sum", "k", "one")), ("more", ("call", "from", "m"))], ("made", "cons", ("k", "more")))
        ones = lets([("one", num(1))], ("letall", (("from", ("fun", "k", again)),), ("call", "from", "one")))
        self.assertTrue(is_program(ones))
        self.assertEqual(late(ones, 5)[1], 5)
        self.assertEqual(told(all_seers, ones, 5, limit=10 ** 15), ("TooMany",))

    def test_the_told_lists_are_the_askers_own(self):
        wanted = ways(MIXED, 1)
        once = all_seers(MIXED, 1)
        self.assertIs(type(once), list)
        for way in once:
            self.assertIs(type(way), tuple)
            self.assertIs(type(way[0]), list)
            way[0].append("more")
        once.clear()
        self.assertEqual(ways(MIXED, 1), wanted)


class PiecesTest(ReckonerTest):

    def takes(self, pieces, program, numbers, look=1):
        self.assertTrue(is_program(program), program)
        for run in (seer, seer_rows):
            self.assertEqual(fewest(run, program, numbers, look), pieces)

    def test_to_reckon_at_once_is_no_asking(self):
        program = ("let", "a", num(1), num(2))
        self.takes(2, program, [])
        self.takes(3, program, [(1,)])
        self.takes(4, ("let", "a", num(1), name("a")), [(1,)])
        self.takes(5, ("let", "a", num(1), ("sum", "a", "a")), [(1,)])
        self.takes(3, ("now", "a", num(1), num(2)), [])
        program = lets([("a", num(1)), ("b", num(2))], ("made", "c", ("a", "b")))
        self.takes(3, program, [])
        self.takes(5, program, [(1,), (2,)])
        self.takes(7, program, [(1,), (2,)], 2)
        self.takes(5, program, [(1,)], (1,))
        self.assertEqual(fewest(least, program, 2), 7)
        self.assertEqual(fewest(all_seers, program, 1), 5)
        self.assertEqual(fewest(all_seers, program, 2), 7)

    def test_the_least_seer_takes_the_pieces_of_late(self):
        for program, look in ((MIXED, 1), (nested(3), 1), (lets([("a", num(1))], ("made", "c", ("a", "a"))), 2)):
            pieces = fewest(late, program, look)
            self.takes(pieces, program, least(program, look)[0], look)
            self.assertEqual(fewest(least, program, look), pieces)

    def test_numbers_just_inside_and_beyond(self):
        below = [("m", ("minus", "zero", "n"))]
        for sort, x, y in (("sum", "n", "zero"), ("minus", "zero", "n"), ("sum", "m", "zero")):
            program = nines(lets(below, (sort, x, y)))
            numbers, steps = least(program, 1)
            worth = 1 - 10 ** 60 if (sort, x) != ("sum", "n") else 10 ** 60 - 1
            self.assertEqual(seer(program, numbers, 1), (worth, steps))
        for sort, x, y in (("sum", "n", "one"), ("minus", "m", "one")):
            program = nines(lets([*below, ("s", (sort, x, y))], num(1)))
            numbers, _ = least(nines(lets(below, ("sum", "m", "one"))), 1)
            # The let of s comes up just behind that of m, the last of the late run's in the going ().
            of_s = (max(number for number in numbers if len(number) == 1)[0] + 1,)
            for run in (seer, seer_rows):
                self.assertEqual(told(run, program, numbers, 1)[0], "told")
                self.assertEqual(told(run, program, [*numbers, of_s], 1), ("TooMany",))

    def test_a_number_of_a_hundred_parts_and_of_one_more(self):
        for k, outcome in ((99, "told"), (100, "TooMany")):
            reckoner = Reckoner(True, 10 ** 6)
            told(reckoner.run, deep(k), 1)
            for run in (seer, seer_rows):
                self.assertEqual(told(run, deep(k), list(reckoner.rows), 1, limit=10 ** 6)[0], outcome)
            self.assertEqual(told(least, deep(k), 1, limit=10 ** 6)[0], outcome)
            self.assertEqual(max(len(number) for number in reckoner.rows), 100)

    def test_also_for_lets_that_nobody_asks_and_those_that_are_thrown_away(self):
        def within(k, body):
            for _ in range(k):
                body = ("now", "r", body, num(1))
            return body
        fifty = ("fun", "x", within(49, ("let", "r", num(1), num(1))))
        for rest, outcome in ((50, "told"), (51, "TooMany")):
            program = ("letall", (("fifty", fifty),), within(rest, ("call", "fifty", "fifty")))
            self.assertTrue(is_program(program))
            for numbers in ([], [(1,) * 100], [(1,) * 101]):
                self.assertEqual(told(seer, program, numbers, 1)[0], outcome)
                self.assertEqual(told(seer_rows, program, numbers, 1)[0], outcome)
            self.assertEqual(told(least, program, 1)[0], outcome)
            self.assertEqual(told(all_seers, program, 1)[0], outcome)

    def test_twenty_thousand_where_no_limit_is_told(self):
        just, more = lasting(20000), lasting(20001)
        calls = (lambda program, **named: seer(program, [], 1, **named),
                 lambda program, **named: seer_rows(program, [], 1, **named),
                 lambda program, **named: least(program, 1, **named),
                 lambda program, **named: all_seers(program, 1, **named))
        for program in (just, more):
            self.assertTrue(is_program(program))
        for call in calls:
            self.assertEqual(told(call, just)[0], "told")
            self.assertEqual(told(call, more), ("TooMany",))
            self.assertEqual(told(call, just, limit=19999), ("TooMany",))
            self.assertEqual(told(call, more, limit=20001)[0], "told")
            self.assertEqual(told(call, more, limit=10 ** 9)[0], "told")


class FarTest(unittest.TestCase):

    def test_askings_some_thousand_within_one_another(self):
        program = nested(12)
        self.assertTrue(is_program(program))
        numbers, steps = least(program, 1, limit=10 ** 6)
        self.assertEqual((len(numbers), steps), (4096 + 1, 8191))
        self.assertEqual(seer(program, numbers, 1, limit=10 ** 6), (4096, 8191))
        self.assertEqual(seer_rows(program, numbers, 1, limit=10 ** 6), rows(program, 1, limit=10 ** 6))

    def test_goings_at_once_some_thousand_within_one_another_by_calls(self):
        # Each sum asks the one put by ahead of it, and they aren't asked but at the end.
        again = lets([("j", ("minus", "k", "one")), ("t", ("sum", "s", "one"))], ("now", "i", name("j"), lets(
            [("g", ("call", "loop", "i"))], ("call", "g", "t"))))
        body = ("let", "end", ("less", "k", "one"), pick("end", ("yes", (), name("s")), ("no", (), again)))
        program = lets([("one", num(1)), ("zero", num(0))], (
            "letall", (("loop", ("fun", "k", ("fun", "s", body))),), lets(
                [("k", num(3000)), ("g", ("call", "loop", "k"))], ("call", "g", "zero"))))
        self.assertTrue(is_program(program))
        numbers, steps = least(program, 1, limit=10 ** 6)
        self.assertEqual(seer(program, numbers, 1, limit=10 ** 6), (3000, steps))
        lost = numbers[len(numbers) // 2]
        fewer = [number for number in numbers if number != lost]
        self.assertEqual(told(seer, program, fewer, 1, limit=10 ** 6), ("Lost", lost))


class ArgumentsTest(unittest.TestCase):

    def test_by_the_names_shown(self):
        self.assertEqual(seer(program=MIXED, numbers=MIXED_LETS, look=1, limit=100), (12, 2))
        self.assertEqual(seer_rows(program=MIXED, numbers=MIXED_LETS, look=1, limit=100), rows(MIXED, 1))
        self.assertEqual(least(program=MIXED, look=1, limit=100), (MIXED_LETS, 2))
        self.assertEqual(all_seers(program=num(1), look=1, most=1, limit=100), [([], 1, 0)])

    def test_limit_and_most_by_name_alone(self):
        for call, given in ((seer, (MIXED, [], 1)), (seer_rows, (MIXED, [], 1)), (least, (MIXED, 1)),
                            (all_seers, (MIXED, 1))):
            with self.assertRaises(TypeError):
                call(*given, 300)

    def test_what_is_handed_in_is_not_changed(self):
        for numbers in ([], [(2, 1), (1,), (2,)], [(9,), (1,), (1,)]):
            kept = list(numbers)
            first = [told(run, MIXED, numbers, 1) for run in (seer, seer_rows)]
            self.assertEqual(numbers, kept)
            self.assertEqual([told(run, MIXED, numbers, 1) for run in (seer, seer_rows)], first)
