"""Point 12: functions run late with an input, and the places that are asked of it."""

import unittest

from owedonce.errors import Missing, Stuck, TooMany
from owedonce.inputs import on, parts_asked
from owedonce.late import late
from owedonce.terms import is_program
from tests.helper import deep, fewest, lasting, lets, name, nines, num, pick, stripped, told

SELF = ("fun", "x", name("x"))
PAIR = ("c", (4, ("d", (5, ("e", ()), 6))))
FIRST = ("fun", "x", pick("x", ("c", ("a", "b"), name("a"))))
SECOND = ("fun", "x", pick("x", ("c", ("a", "b"), name("b"))))


def listed(*numbers):
    """An input: these numbers, one behind the other."""
    given = ("nil", ())
    for number in reversed(numbers):
        given = ("cons", (number, given))
    return given


def summed(one=num(1)):
    """A function that sums a list, with one call a pair."""
    more = lets([("s", ("call", "all", "rest"))], ("sum", "n", "s"))
    body = pick("xs", ("nil", (), num(0)), ("cons", ("n", "rest"), more))
    return ("fun", "x", lets([("one", one)], ("letall", (("all", ("fun", "xs", body)),), ("call", "all", "x"))))


class InputTest(unittest.TestCase):

    def sees(self, function, given, look, seen, steps, places):
        self.assertTrue(is_program(function), function)
        self.assertEqual(on(function, given, look), (seen, steps))
        self.assertEqual(parts_asked(function, given, look), places)
        # The places are enough, and with any one of them missing the run is lost there.
        if given is not None:
            self.assertEqual(on(function, stripped(given, places), look), (seen, steps))
        for place in places:
            fewer = [one for one in places if one[:len(place)] != place]
            self.assertEqual(told(on, function, stripped(given, fewer), look), ("Missing", place))

    def misses(self, function, given, look, place):
        self.assertTrue(is_program(function), function)
        for run in (on, parts_asked):
            with self.assertRaises(Missing) as caught:
                run(function, given, look)
            self.assertEqual(caught.exception.place, place)


class OnTest(InputTest):

    def test_whole_numbers(self):
        twice = ("fun", "x", ("sum", "x", "x"))
        for n in (0, 7, -3, 10 ** 18, -10 ** 18):
            self.sees(SELF, n, 1, n, 0, [()])
            self.sees(twice, n, 1, 2 * n, 0, [()])
            self.sees(("fun", "x", ("same", "x", "x")), n, 1, ("yes", ()), 0, [()])
            self.sees(("fun", "x", num(3)), n, 1, 3, 0, [])

    def test_made_things(self):
        self.sees(FIRST, PAIR, 1, 4, 0, [(), (0,)])
        self.sees(SECOND, PAIR, 1, ("d", (None, None, None)), 0, [(), (1,)])
        self.sees(SELF, ("c", ()), 1, ("c", ()), 0, [()])
        both = pick("x", ("c", ("a", "b"), pick("b", ("d", ("p", "q", "r"), ("minus", "r", "p")))))
        self.sees(("fun", "x", both), PAIR, 1, 1, 0, [(), (1,), (1, 0), (1, 2)])

    def test_without_a_step(self):
        self.sees(SELF, 5, 1, 5, 0, [()])
        call = ("fun", "x", lets([("f", SELF)], ("call", "f", "x")))
        self.sees(call, 5, 1, 5, 1, [()])
        self.sees(summed(), listed(3, 4, 5), 1, 12, 4, [
            (), (0,), (1,), (1, 0), (1, 1), (1, 1, 0), (1, 1, 1)])

    def test_its_term_is_gone_into_as_the_going_of_no_parts(self):
        stuck = ("fun", "x", ("call", "x", "x"))
        self.assertEqual(told(on, stuck, 5, 1), ("Stuck", ()))
        self.assertEqual(told(on, ("fun", "x", lets([("a", num(1)), ("s", ("call", "x", "x"))], name("s"))), 5, 1),
                         ("Stuck", (2,)))

    def test_its_parts_stand_ready(self):
        # Asked by several, and again and again: no steps, one piece each asking.
        double = ("fun", "x", pick("x", ("c", ("a", "b"), ("sum", "a", "a"))))
        self.sees(double, PAIR, 1, 8, 0, [(), (0,)])
        again = ("fun", "x", pick("x", ("c", ("a", "b"), pick("x", ("c", ("p", "q"), ("sum", "a", "p"))))))
        self.sees(again, PAIR, 1, 8, 0, [(), (0,)])

    def test_parts_of_it_are_told_as_they_are(self):
        self.sees(SELF, PAIR, 60, PAIR, 0, [(), (0,), (1,), (1, 0), (1, 1), (1, 2)])
        self.sees(SECOND, PAIR, 60, PAIR[1][1], 0, [(), (1,), (1, 0), (1, 1), (1, 2)])
        within = ("fun", "x", lets([("n", num(9))], ("made", "z", ("x", "n", "x"))))
        self.sees(within, PAIR, 60, ("z", (PAIR, 9, PAIR)), 0, [(), (0,), (1,), (1, 0), (1, 1), (1, 2)])
        moved = pick("x", ("c", ("a", "b"), ("made", "c", ("b", "a"))))
        self.sees(("fun", "x", moved), PAIR, 60, ("c", (PAIR[1][1], 4)), 0,
                  [(), (0,), (1,), (1, 0), (1, 1), (1, 2)])

    def test_looks(self):
        self.sees(SELF, PAIR, None, None, 0, [])
        self.sees(SELF, PAIR, 0, None, 0, [])
        self.sees(SELF, PAIR, 1, ("c", (None, None)), 0, [()])
        self.sees(SELF, PAIR, 2, ("c", (4, ("d", (None, None, None)))), 0, [(), (0,), (1,)])
        self.sees(SELF, PAIR, (), ("c", (None, None)), 0, [()])
        self.sees(SELF, PAIR, (1,), ("c", (4, None)), 0, [(), (0,)])
        self.sees(SELF, PAIR, (0, ()), ("c", (None, ("d", (None, None, None)))), 0, [(), (1,)])
        self.sees(SELF, PAIR, (None, (None, 1, 1)), ("c", (None, ("d", (None, ("e", ()), 6)))), 0,
                  [(), (1,), (1, 1), (1, 2)])
        self.sees(SELF, PAIR, (0, (0, 0, 0, 60), 60), ("c", (None, ("d", (None, None, None)))), 0, [(), (1,)])

    def test_where_nothing_is_looked_at(self):
        for look in (None, 0):
            for function in (SELF, ("fun", "x", ("call", "x", "x"))):
                for given in (5, PAIR, None):
                    self.assertEqual(on(function, given, look, limit=0), (None, 0))
                    self.assertEqual(parts_asked(function, given, look, limit=0), [])

    def test_functions_that_tell_functions(self):
        self.sees(("fun", "x", SELF), PAIR, 60, ("fun",), 0, [])
        self.sees(("fun", "x", ("fun", "y", name("x"))), PAIR, 60, ("fun",), 0, [])

    def test_the_nearest_binding(self):
        self.sees(("fun", "x", ("let", "x", num(2), name("x"))), 5, 1, 2, 0, [])
        self.sees(("fun", "x", ("let", "x", name("x"), name("x"))), 5, 1, 5, 0, [()])

    def test_whole_thirty_within_one_another(self):
        given, places = 8, [()]
        for _ in range(29):
            given = ("c", (given,))
            places = [(), *[(0, *place) for place in places]]
        self.sees(SELF, given, 60, given, 0, places)
        wide, many = ("nil", ()), [()]
        for at in range(29):
            wide = ("cons", (at, ("q", ()), wide))
            many = [(), (0,), (1,), *[(2, *place) for place in many]]
        self.sees(SELF, wide, 60, wide, 0, sorted(many))

    def test_somewhat_beyond_is_no_error(self):
        given = 8
        for _ in range(59):
            given = ("c", (given,))
        self.assertEqual(on(SELF, given, 60), (given, 0))
        for _ in range(3000):
            given = ("c", (given,))
        self.assertEqual(on(SELF, given, 1), (("c", (None,)), 0))
        self.assertEqual(on(SELF, 10 ** 20, 1), (10 ** 20, 0))

    def test_the_told(self):
        answer = on(SELF, PAIR, 2)
        self.assertIs(type(answer), tuple)
        self.assertIs(type(answer[1]), int)
        self.assertIs(type(on(SELF, 1, 1)[0]), int)
        self.assertIs(type(on(SELF, 0, 1)[0]), int)


class PlacesTest(InputTest):

    def test_rising_each_once(self):
        given = ("c", (1, ("c", (2, 3)), ("c", (4, 5))))
        body = pick("x", ("c", ("p", "q", "r"), pick("r", ("c", ("s", "t"), pick("q", ("c", ("u", "v"), lets(
            [("a", ("sum", "t", "u")), ("b", ("sum", "a", "t"))], ("sum", "b", "p"))))))))
        self.sees(("fun", "x", body), given, 1, 13, 0, [(), (0,), (1,), (1, 0), (2,), (2, 1)])
        many = tuple(("d", (at,)) for at in range(3))
        self.sees(SELF, ("c", many), 3, ("c", many), 0, [(), (0,), (0, 0), (1,), (1, 0), (2,), (2, 0)])

    def test_by_goings(self):
        # What no going asks isn't asked; what a going asks that is put by and asked is.
        self.sees(("fun", "x", lets([("a", name("x"))], num(1))), 5, 1, 1, 0, [])
        self.sees(("fun", "x", lets([("a", name("x"))], name("a"))), 5, 1, 5, 0, [()])
        self.sees(("fun", "x", ("now", "a", name("x"), num(1))), 5, 1, 1, 0, [()])
        self.sees(("fun", "x", lets([("m", ("made", "d", ("x",)))], name("m"))), 5, 1, ("d", (None,)), 0, [])

    def test_by_calls(self):
        ask, skip = ("fun", "y", name("y")), ("fun", "y", num(0))
        self.sees(("fun", "x", lets([("f", ask)], ("call", "f", "x"))), 5, 1, 5, 1, [()])
        self.sees(("fun", "x", lets([("f", skip)], ("call", "f", "x"))), 5, 1, 0, 1, [])
        self.sees(("fun", "x", lets([("f", ask)], pick("x", ("c", ("a", "b"), ("call", "f", "a"))))), PAIR, 1, 4, 1,
                  [(), (0,)])
        # What is called is asked: a part of an input is no fun.
        stuck = ("fun", "x", pick("x", ("c", ("a", "b"), ("call", "b", "a"))))
        self.assertEqual(told(on, stuck, PAIR, 1), ("Stuck", ()))
        self.assertEqual(told(on, stuck, ("c", (None, 3)), 1), ("Stuck", ()))
        self.misses(stuck, ("c", (3, None)), 1, (1,))

    def test_by_the_look_alone(self):
        box = ("fun", "x", ("made", "d", ("x",)))
        self.sees(box, PAIR, 1, ("d", (None,)), 0, [])
        self.sees(box, PAIR, 2, ("d", (("c", (None, None)),)), 0, [()])
        self.sees(box, PAIR, ((1,),), ("d", (("c", (4, None)),)), 0, [(), (0,)])

    def test_the_told_list_is_the_askers_own(self):
        once = parts_asked(SELF, PAIR, 2)
        self.assertIs(type(once), list)
        for place in once:
            self.assertIs(type(place), tuple)
        once.clear()
        self.assertEqual(parts_asked(SELF, PAIR, 2), [(), (0,), (1,)])
        parts_asked(SELF, PAIR, None).append("more")
        self.assertEqual(parts_asked(SELF, PAIR, None), [])


class MissingTest(InputTest):

    GIVEN = ("c", (None, ("d", (5, None, 6))))

    def test_the_whole(self):
        self.misses(SELF, None, 1, ())
        self.misses(("fun", "x", ("sum", "x", "x")), None, 1, ())
        self.misses(FIRST, None, 1, ())
        self.misses(("fun", "x", ("made", "d", ("x",))), None, 2, ())
        self.sees(("fun", "x", ("made", "d", ("x",))), None, 1, ("d", (None,)), 0, [])
        self.sees(("fun", "x", num(1)), None, 60, 1, 0, [])

    def test_a_none_that_is_asked(self):
        self.misses(FIRST, self.GIVEN, 1, (0,))
        self.misses(SELF, self.GIVEN, 2, (0,))
        self.misses(SELF, self.GIVEN, (0, 2), (1, 1))
        self.misses(SECOND, self.GIVEN, 60, (1, 1))
        self.misses(SECOND, self.GIVEN, (0, 1), (1, 1))
        self.misses(("fun", "x", pick("x", ("c", ("a", "b"), ("now", "u", name("a"), num(1))))), self.GIVEN, 1, (0,))
        self.misses(summed(), ("cons", (1, ("cons", (2, None)))), 1, (1, 1))
        self.misses(summed(), ("cons", (None, ("cons", (2, None)))), 1, (0,))

    def test_a_none_that_is_not(self):
        self.sees(SECOND, self.GIVEN, 1, ("d", (None, None, None)), 0, [(), (1,)])
        self.sees(SECOND, self.GIVEN, (1, 0, 1), ("d", (5, None, 6)), 0, [(), (1,), (1, 0), (1, 2)])
        self.sees(SELF, self.GIVEN, 1, ("c", (None, None)), 0, [()])
        self.sees(FIRST, ("c", (4, None)), 60, 4, 0, [(), (0,)])

    def test_whichever_comes_first(self):
        missed = ("fun", "x", ("now", "a", name("x"), ("call", "one", "one")))
        missed = ("fun", "x", lets([("one", num(1))], missed[2]))
        # let, now, name, the asking of x.
        for run in (on, parts_asked):
            self.assertEqual(told(run, missed, None, 1, limit=4), ("Missing", ()))
            self.assertEqual(told(run, missed, None, 1, limit=3), ("TooMany",))
        stuck = ("fun", "x", lets([("one", num(1))], ("now", "a", ("call", "one", "one"), name("x"))))
        for run in (on, parts_asked):
            self.assertEqual(told(run, stuck, None, 1), ("Stuck", (2,)))
        # The first is asked and told of ahead of the second.
        pair = ("fun", "x", pick("x", ("c", ("a", "b"), ("sum", "a", "b"))))
        self.assertEqual(told(on, pair, ("c", (("d", ()), None)), 1), ("Stuck", ()))
        self.assertEqual(told(on, pair, ("c", (None, ("d", ()))), 1), ("Missing", (0,)))
        self.assertEqual(told(on, pair, ("c", (1, None)), 1), ("Missing", (1,)))


class StuckTest(unittest.TestCase):

    def sticks(self, function, given, number):
        self.assertTrue(is_program(function), function)
        for run in (on, parts_asked):
            with self.assertRaises(Stuck) as caught:
                run(function, given, 1)
            self.assertEqual(caught.exception.number, number)

    def test_inputs_that_are_not_as_they_must_be(self):
        self.sticks(FIRST, 5, ())
        self.sticks(FIRST, ("d", (1, 2)), ())
        self.sticks(FIRST, ("c", (1,)), ())
        self.sticks(FIRST, ("c", (1, 2, 3)), ())
        for sort in ("sum", "minus", "less", "same"):
            self.sticks(("fun", "x", (sort, "x", "x")), ("c", ()), ())
            self.sticks(("fun", "x", lets([("a", (sort, "x", "x"))], name("a"))), ("c", ()), (1,))
        self.sticks(("fun", "x", ("call", "x", "x")), ("c", ()), ())
        self.sticks(summed(), ("cons", (1, ("cons", (2, 3)))), (2, 1))

    def test_too_many(self):
        loop = ("fun", "x", ("letall", (("f", ("fun", "y", ("call", "f", "x"))),), ("call", "f", "x")))
        for run in (on, parts_asked):
            for limit in (0, 1, 100, 20000):
                with self.assertRaises(TooMany):
                    run(loop, 5, 1, limit=limit)


class PiecesTest(unittest.TestCase):

    def takes(self, pieces, function, given, look=1):
        self.assertTrue(is_program(function), function)
        for run in (on, parts_asked):
            self.assertEqual(fewest(run, function, given, look), pieces)

    def test_each_going_into_and_each_asking(self):
        # To go into the function's term is one, and none into the function itself.
        self.takes(1, ("fun", "x", num(1)), 5)
        self.takes(2, SELF, 5)
        self.takes(3, ("fun", "x", ("sum", "x", "x")), 5)
        # by, the asking of x, name, the asking of its part.
        self.takes(4, FIRST, PAIR)
        self.takes(4, SELF, PAIR, 2)
        self.takes(7, SELF, PAIR, 60)
        self.takes(3, SELF, PAIR, (1,))
        self.takes(2, SELF, PAIR, ())
        # Four pieces by the function, three by the look.
        self.takes(7, SECOND, PAIR, 60)
        self.takes(2, ("fun", "x", ("made", "d", ("x",))), 5, 2)

    def test_numbers_just_inside_and_beyond(self):
        # The input is one, and n is just inside.
        most = 10 ** 60 - 1
        self.assertEqual(on(("fun", "x", nines(("minus", "n", "x"))), 0, 1)[0], most)
        self.assertEqual(on(("fun", "x", nines(("sum", "n", "x"))), -1, 1)[0], most - 1)
        self.assertEqual(told(on, ("fun", "x", nines(("sum", "n", "x"))), 1, 1), ("TooMany",))
        below = [("m", ("minus", "zero", "n"))]
        self.assertEqual(on(("fun", "x", nines(lets(below, ("sum", "m", "x")))), 0, 1)[0], -most)
        self.assertEqual(told(on, ("fun", "x", nines(lets(below, ("minus", "m", "x")))), 1, 1), ("TooMany",))
        self.assertEqual(told(parts_asked, ("fun", "x", nines(lets(below, ("minus", "m", "x")))), 1, 1), ("TooMany",))

    def test_a_number_of_a_hundred_parts_and_of_one_more(self):
        for k, outcome in ((99, "told"), (100, "TooMany")):
            for run in (on, parts_asked):
                self.assertEqual(told(run, ("fun", "x", deep(k)), 1, 1, limit=10 ** 6)[0], outcome)

    def test_twenty_thousand_where_no_limit_is_told(self):
        just, more = (("fun", "x", lasting(pieces)) for pieces in (20000, 20001))
        for function in (just, more):
            self.assertTrue(is_program(function))
        for run in (on, parts_asked):
            self.assertEqual(told(run, just, 5, 1)[0], "told")
            self.assertEqual(told(run, more, 5, 1), ("TooMany",))
            self.assertEqual(told(run, just, 5, 1, limit=19999), ("TooMany",))
            self.assertEqual(told(run, more, 5, 1, limit=20001)[0], "told")
            self.assertEqual(told(run, more, 5, 1, limit=10 ** 9)[0], "told")


class FarTest(unittest.TestCase):

    def test_askings_some_thousand_within_one_another(self):
        # n sums, each of the one ahead of it and of the input, asked at the end alone.
        again = lets([("j", ("minus", "k", "one")), ("t", ("sum", "s", "x"))], ("now", "i", name("j"), lets(
            [("g", ("call", "loop", "i"))], ("call", "g", "t"))))
        body = ("let", "end", ("less", "k", "one"), pick("end", ("yes", (), name("s")), ("no", (), again)))
        function = ("fun", "x", lets([("one", num(1)), ("zero", num(0)), ("k", num(4000))], (
            "letall", (("loop", ("fun", "k", ("fun", "s", body))),), lets(
                [("g", ("call", "loop", "k"))], ("call", "g", "zero")))))
        self.assertTrue(is_program(function))
        self.assertEqual(on(function, 3, 1, limit=10 ** 6), (12000, 8002))
        self.assertEqual(parts_asked(function, 3, 1, limit=10 ** 6), [()])
        self.assertEqual(told(on, function, None, 1, limit=10 ** 6), ("Missing", ()))

    def test_as_a_program_that_has_the_input_made(self):
        given = listed(*range(20))
        made = [("e", ("made", "nil", ()))]
        for at in reversed(range(20)):
            made += [("n", num(at)), ("e", ("made", "cons", ("n", "e")))]
        program = lets([*made, ("f", summed())], ("call", "f", "e"))
        self.assertTrue(is_program(program))
        seen, steps = late(program, 1)
        self.assertEqual(on(summed(), given, 1), (seen, steps - 1))


class ArgumentsTest(unittest.TestCase):

    def test_by_the_names_shown(self):
        self.assertEqual(on(function=SELF, given=5, look=1, limit=9), (5, 0))
        self.assertEqual(parts_asked(function=SELF, given=5, look=1, limit=9), [()])

    def test_the_limit_by_name_alone(self):
        for run in (on, parts_asked):
            with self.assertRaises(TypeError):
                run(SELF, 5, 1, 20)
