"""Point 13: what a term surely asks, and terms moved."""

import unittest

from owedonce.late import late, rows
from owedonce.surely import moved, surely
from owedonce.terms import is_program, is_term
from tests.helper import Chance, lets, name, num, pick, told


def let(x, term, body):
    return ("let", x, term, body)


def now(x, term, body):
    return ("now", x, term, body)


class SurelyTest(unittest.TestCase):

    def asks(self, names, term):
        self.assertTrue(is_term(term), term)
        self.assertEqual(surely(term), names, term)

    def test_name(self):
        self.asks(["x"], name("x"))

    def test_call_asks_what_it_calls_alone(self):
        self.asks(["f"], ("call", "f", "x"))
        self.asks(["f"], ("call", "f", "f"))

    def test_sums_and_tests_ask_both(self):
        for sort in ("sum", "minus", "less", "same"):
            self.asks(["a", "b"], (sort, "b", "a"))
            self.asks(["a", "b"], (sort, "a", "b"))
            self.asks(["a"], (sort, "a", "a"))

    def test_worths_ask_none(self):
        self.asks([], num(1))
        self.asks([], ("fun", "x", ("sum", "x", "y")))
        self.asks([], ("made", "c", ()))
        self.asks([], ("made", "c", ("x", "y", "x")))

    def test_by_its_own_name(self):
        self.asks(["x"], pick("x", ("c", (), num(1))))
        self.asks(["x"], pick("x", ("c", (), num(1)), ("d", ("a",), name("a"))))

    def test_by_what_all_branches_ask(self):
        self.asks(["x", "y"], pick("x", ("c", (), name("y"))))
        self.asks(["x", "y"], pick("x", ("c", (), name("y")), ("d", (), name("y"))))
        self.asks(["x"], pick("x", ("c", (), name("y")), ("d", (), name("z"))))
        self.asks(["x"], pick("x", ("c", (), name("y")), ("d", (), num(1))))
        self.asks(["x"], pick("x", ("d", (), num(1)), ("c", (), name("y"))))
        self.asks(["a", "x"], pick("x", ("c", (), ("sum", "a", "b")), ("d", (), ("sum", "a", "d")),
                                   ("e", (), ("sum", "c", "a"))))
        self.asks(["x"], pick("x", ("c", (), ("sum", "a", "b")), ("d", (), ("sum", "a", "c")),
                              ("e", (), ("sum", "b", "c"))))
        self.asks(["a", "b", "x"], pick("x", ("c", (), ("sum", "a", "b")), ("d", (), ("sum", "b", "a"))))

    def test_a_branch_that_binds_the_name_does_not_ask_it(self):
        self.asks(["x"], pick("x", ("c", ("y",), name("y"))))
        self.asks(["x"], pick("x", ("c", (), name("y")), ("d", ("y",), name("y"))))
        self.asks(["x"], pick("x", ("d", ("z", "y"), name("y")), ("c", (), name("y"))))
        self.asks(["x", "z"], pick("x", ("c", ("y",), ("sum", "y", "z")), ("d", (), ("sum", "y", "z"))))
        # Its own name it asks, whatever its branches bind.
        self.asks(["x"], pick("x", ("c", ("x",), name("x"))))

    def test_let_of_which_the_name_is_not_asked(self):
        self.asks([], let("y", name("a"), num(1)))
        self.asks(["b"], let("y", name("a"), name("b")))
        self.asks([], let("y", name("a"), ("made", "c", ("y",))))
        self.asks([], let("y", name("a"), ("fun", "x", name("y"))))
        self.asks(["f"], let("y", name("a"), ("call", "f", "y")))
        self.asks(["x"], let("y", name("a"), pick("x", ("c", (), name("y")), ("d", (), num(1)))))
        self.asks([], let("y", name("a"), let("z", name("y"), num(1))))

    def test_let_of_which_the_name_is_asked(self):
        self.asks(["a"], let("y", name("a"), name("y")))
        self.asks(["a", "b", "c"], let("y", ("sum", "b", "a"), ("sum", "y", "c")))
        self.asks(["a"], let("y", name("a"), let("z", name("y"), name("z"))))
        self.asks(["a", "x"], let("y", name("a"), pick("x", ("c", (), name("y")), ("d", (), ("sum", "y", "y")))))
        self.asks(["a"], let("y", name("a"), ("call", "y", "b")))
        self.asks([], let("y", ("made", "c", ("a",)), name("y")))

    def test_let_binds_its_name_in_what_follows_alone(self):
        self.asks(["y"], let("y", name("y"), name("y")))
        self.asks(["y", "z"], let("y", ("sum", "y", "z"), name("y")))
        self.asks([], let("y", name("y"), num(1)))
        self.asks(["a"], let("y", num(1), ("sum", "y", "a")))

    def test_now_asks_what_it_reckons(self):
        self.asks(["a"], now("y", name("a"), num(1)))
        self.asks(["a"], now("y", name("a"), name("y")))
        self.asks(["a", "b"], now("y", name("a"), name("b")))
        self.asks(["y"], now("y", name("y"), num(1)))
        self.asks(["a", "b", "c"], now("y", ("sum", "b", "a"), ("sum", "y", "c")))

    def test_letall_leaves_its_own_names_out(self):
        pairs = (("f", ("fun", "x", name("a"))), ("g", ("made", "c", ("b", "f"))))
        self.asks([], ("letall", pairs, name("f")))
        self.asks([], ("letall", pairs, ("sum", "f", "g")))
        self.asks(["a"], ("letall", pairs, ("sum", "f", "a")))
        self.asks(["x"], ("letall", pairs, ("call", "x", "f")))
        self.asks([], ("letall", pairs, num(1)))

    def test_far_within(self):
        term = name("z")
        for _ in range(58):
            term = let("y", term, name("y"))
        self.asks(["z"], term)
        term = name("z")
        for _ in range(58):
            term = now("y", num(1), term)
        self.asks(["z"], term)

    def test_rising_each_once(self):
        term = let("q", ("sum", "z", "b"), let("r", ("sum", "ab", "a"), let("s", ("sum", "z", "aa"), let(
            "t", ("sum", "q", "r"), ("sum", "t", "s")))))
        self.asks(["a", "aa", "ab", "b", "z"], term)
        self.asks(["a"], now("q", name("a"), name("a")))
        self.asks(["a"], now("q", name("a"), now("r", name("a"), pick("a", ("c", (), name("a"))))))

    def test_the_told_list_is_the_askers_own(self):
        for term in (("sum", "b", "a"), name("a"), num(1), pick("a", ("c", (), name("b")))):
            once = surely(term)
            self.assertIs(type(once), list)
            wanted = list(once)
            once.append("more")
            self.assertEqual(surely(term), wanted)


class MovedTest(unittest.TestCase):

    def moves(self, term, wanted):
        self.assertTrue(is_term(term), term)
        self.assertEqual(moved(term), wanted)
        self.assertEqual(moved(wanted), wanted)
        self.assertEqual(surely(wanted), surely(term))
        self.assertTrue(is_term(moved(term)))

    def stays(self, term):
        self.moves(term, term)

    def test_a_let_whose_name_is_surely_asked(self):
        for body in (name("y"), ("sum", "a", "y"), ("call", "y", "a"), pick("y", ("c", (), num(1))),
                     pick("x", ("c", (), name("y")), ("d", (), ("sum", "y", "y")))):
            self.moves(let("y", name("a"), body), now("y", name("a"), body))

    def test_a_let_whose_name_is_not(self):
        for body in (num(1), name("a"), ("call", "a", "y"), ("made", "c", ("y",)), ("fun", "x", name("y")),
                     pick("a", ("c", ("y",), name("y"))), let("z", name("y"), num(1))):
            self.stays(let("y", name("a"), body))
        self.stays(let("y", name("y"), num(1)))

    def test_asked_in_one_branch_alone_it_stays(self):
        self.stays(let("y", num(1), pick("x", ("c", (), name("y")), ("d", (), num(2)))))
        self.stays(let("y", num(1), pick("x", ("c", (), name("y")), ("d", ("y",), name("y")))))

    def test_bound_anew_it_stays(self):
        self.moves(let("y", num(1), let("y", num(2), name("y"))), let("y", num(1), now("y", num(2), name("y"))))
        self.moves(let("y", num(1), let("y", name("y"), name("y"))), now("y", num(1), now("y", name("y"), name("y"))))
        self.stays(let("y", num(1), ("letall", (("y", ("made", "c", ())),), name("y"))))

    def test_one_within_another(self):
        self.moves(let("y", num(1), let("z", name("y"), name("z"))), now("y", num(1), now("z", name("y"), name("z"))))
        self.moves(let("y", num(1), let("z", name("y"), num(2))), let("y", num(1), let("z", name("y"), num(2))))
        self.moves(let("y", let("z", num(1), name("z")), num(2)), let("y", now("z", num(1), name("z")), num(2)))
        self.moves(let("y", num(1), now("z", name("y"), num(2))), now("y", num(1), now("z", name("y"), num(2))))

    def test_in_all_terms(self):
        one, other = let("y", num(1), name("y")), now("y", num(1), name("y"))
        self.moves(one, other)
        self.moves(("fun", "x", one), ("fun", "x", other))
        self.moves(("fun", "x", ("fun", "z", one)), ("fun", "x", ("fun", "z", other)))
        self.moves(let("z", one, one), let("z", other, other))
        self.moves(now("z", one, one), now("z", other, other))
        self.moves(pick("x", ("c", (), one), ("d", ("a", "b"), one)),
                   pick("x", ("c", (), other), ("d", ("a", "b"), other)))
        pairs = (("f", ("fun", "x", one)), ("g", ("made", "c", ("f", "g"))), ("h", ("fun", "z", one)))
        after = (("f", ("fun", "x", other)), ("g", ("made", "c", ("f", "g"))), ("h", ("fun", "z", other)))
        self.moves(("letall", pairs, one), ("letall", after, other))

    def test_what_has_no_lets_stays(self):
        for term in (num(1), name("x"), ("fun", "x", name("x")), ("call", "f", "x"), ("made", "c", ("x", "x")),
                     ("sum", "x", "y"), ("minus", "x", "y"), ("less", "x", "y"), ("same", "x", "y"),
                     now("y", num(1), num(2)), now("y", num(1), name("y")), pick("x", ("c", (), num(1))),
                     ("letall", (("f", ("fun", "x", num(1))),), name("f"))):
            self.stays(term)

    def test_what_is_handed_in_stays_as_it_is(self):
        inner = let("y", num(1), name("y"))
        term = let("z", inner, inner)
        moved(term)
        self.assertEqual(term, let("z", let("y", num(1), name("y")), let("y", num(1), name("y"))))

    def test_somewhat_beyond_is_no_error(self):
        term = wanted = name("y")
        for _ in range(2000):
            term, wanted = let("y", name("y"), term), now("y", name("y"), wanted)
        self.assertEqual(surely(term), ["y"])
        once = moved(term)
        for _ in range(2000):
            self.assertEqual(once[:3], ("now", "y", ("name", "y")))
            once = once[3]
        self.assertEqual(once, name("y"))


class MovedRunsTest(unittest.TestCase):

    def same(self, program, look, limit):
        one, other = told(late, program, look, limit=limit), told(late, moved(program), look, limit=limit)
        # It comes to an end by the one where it does by the other.
        self.assertEqual(one[0] == "told", other[0] == "told")
        if one[0] == "told":
            self.assertEqual(one, other)
            own = [row[:2] for row in rows(program, look, limit=limit)]
            self.assertEqual(own, [row[:2] for row in rows(moved(program), look, limit=limit)])
        return one[0]

    def test_a_moved_program_tells_the_same(self):
        base = [("f", ("fun", "x", ("sum", "x", "x"))), ("n", num(3))]
        call = ("call", "f", "n")
        for body in (let("a", call, name("a")), let("a", call, num(1)), let("a", call, let("b", call, name("b"))),
                     let("a", call, let("b", ("sum", "a", "n"), ("sum", "b", "a"))),
                     let("a", call, ("made", "c", ("a", "n")))):
            program = lets(base, body)
            self.assertTrue(is_program(moved(program)))
            for look in (1, 2, (1,), (0, 1), None):
                for limit in range(25):
                    self.same(program, look, limit)

    def test_over_many_programs(self):
        outcomes, changed = {}, 0
        for seed in range(700):
            chance = Chance(seed)
            program = chance.program()
            if is_program(program):
                one = moved(program)
                self.assertTrue(is_program(one))
                self.assertEqual(moved(one), one)
                changed += one != program
                outcome = self.same(program, chance.look(), chance.random.choice((5, 20, 60, 200, 1000)))
                outcomes[outcome] = outcomes.get(outcome, 0) + 1
        self.assertGreater(changed, 300)
        self.assertGreater(outcomes["told"], 100)
        self.assertGreater(outcomes["TooMany"], 20)


class ArgumentsTest(unittest.TestCase):

    def test_by_the_names_shown(self):
        self.assertEqual(surely(term=name("a")), ["a"])
        self.assertEqual(moved(term=name("a")), name("a"))
