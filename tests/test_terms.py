"""Point 4: names, terms, programs, free names."""

import faulthandler
import unittest

from owedonce.terms import free_names, is_name, is_program, is_term
from tests.helper import lets, name, num, pick, unused


def setUpModule():
    # What is endless to look through would hang: then the run ends here, failing.
    faulthandler.dump_traceback_later(120, exit=True)


def tearDownModule():
    faulthandler.cancel_dump_traceback_later()


def doubled(sort):
    thing = sort()
    for _ in range(100):
        thing = sort((thing, thing))
    return thing


def doubled_term():
    term = num(1)
    for _ in range(100):
        term = ("let", "x", term, term)
    return term


def within_one_another(sort, many):
    thing = sort()
    for _ in range(many - 1):
        thing = sort((thing,))
    return thing


SORTS = [
    ("num", 7),
    ("name", "x"),
    ("fun", "x", ("name", "x")),
    ("call", "f", "x"),
    ("let", "x", ("num", 1), ("name", "x")),
    ("now", "x", ("num", 1), ("name", "x")),
    ("letall", (("x", ("made", "c", ("x",))), ("f", ("fun", "y", ("name", "x")))), ("name", "x")),
    ("made", "c", ("x", "y")),
    ("by", "x", (("c", ("y", "z"), ("name", "y")), ("d", (), ("num", 1)))),
    ("sum", "x", "y"),
    ("minus", "x", "y"),
    ("less", "x", "y"),
    ("same", "x", "y"),
]

THINGS = [None, True, False, 0, 1, -5, 10 ** 30, "", "num", "x", (), [], ("num",), ["num", 1], ((),), ("x", 1),
          ("", 1), (None, 1), ((), 1), ([], 1), (1, "num"), ("num", "num"), "no name at all", ("nums", 1),
          ("Num", 1), ("num", 1, None), (("num", 1),)]

HUGE = [within_one_another(sort, 300) for sort in (tuple, list)] + [
    doubled(tuple), doubled(list), doubled_term(), tuple(range(700)), list(range(700)), ("num",) * 700,
    tuple([("num", 1)] * 700), "a" * 700, "a" * 100000]


def replaced(term, at, part):
    """A term with another part at a place: a tuple of the numbers of parts."""
    if not at:
        return part
    return (*term[:at[0]], replaced(term[at[0]], at[1:], part), *term[at[0] + 1:])


def places(thing):
    """All places of a thing."""
    found = [()]
    if isinstance(thing, tuple):
        for at, part in enumerate(thing):
            found += [(at, *more) for more in places(part)]
    return found


def at_place(thing, place):
    for at in place:
        thing = thing[at]
    return thing


def sized(pieces):
    """A term of just so many pieces, in some branches, not far within one another."""
    many = 6 if pieces % 2 else 5
    left = (pieces - 1 - many) // 2
    branches = [("c" + "abcdef"[at], (), unused((left + at) // many, num(1))) for at in range(many)]
    return pick("x", *branches)


def is_row(part):
    """Whether a tuple in one of SORTS may be longer or shorter: names, pairs, branches."""
    return all(isinstance(one, tuple) for one in part) or part in (("x",), ("x", "y"), ("y", "z"))


class NamesTest(unittest.TestCase):

    def test_texts_of_one_to_eight_letters(self):
        for text in ("a", "z", "m", "az", "abcdefgh", "zzzzzzzz", "num"):
            self.assertIs(is_name(text), True, text)

    def test_other_lengths(self):
        for text in ("", "abcdefghi", "z" * 300):
            self.assertIs(is_name(text), False, text)

    def test_other_signs_at_each_place(self):
        others = "AZ09 _-.`{@[\n\0\u00e4\u00df\u0430\uff41\u212a\u00aa\u0131\U0001d41a"
        for sign in others:
            for text in (sign, sign + "b", "a" + sign, "a" + sign + "b", "abcdefg" + sign, sign + "abcdefg",
                         "abc" + sign + "efgh"):
                self.assertIs(is_name(text), False, text)

    def test_other_things(self):
        for thing in THINGS + HUGE:
            if thing not in ("num", "x"):
                self.assertIs(is_name(thing), False)
        self.assertIs(is_name(("a",)), False)
        self.assertIs(is_name(["a"]), False)


class TermsTest(unittest.TestCase):

    def is_so(self, holds, term):
        self.assertIs(is_term(term), holds, term)

    def test_each_sort(self):
        for term in SORTS:
            self.is_so(True, term)

    def test_other_things(self):
        for thing in THINGS + HUGE:
            self.assertIs(is_term(thing), False)
            self.assertIs(is_program(thing), False)

    def test_numbers(self):
        for n in (0, 1, -1, 10 ** 18, -10 ** 18):
            self.is_so(True, num(n))
        for n in (10 ** 18 + 1, -10 ** 18 - 1, 10 ** 60, True, False, None, "1", (), (1,), [1]):
            self.is_so(False, num(n))

    def test_a_part_too_few_and_too_many_at_each_place(self):
        for term in SORTS:
            for place in places(term):
                part = at_place(term, place)
                if isinstance(part, tuple) and not is_row(part):
                    self.is_so(False, replaced(term, place, part[:-1]))
                    for more in ("x", ("num", 1), (), 1):
                        self.is_so(False, replaced(term, place, (*part, more)))

    def test_a_wrong_part_at_each_place(self):
        wrong = [None, True, False, [], [1], "Not", "", "x y", ("x", 1), *HUGE]
        for term in SORTS:
            for place in places(term):
                part = at_place(term, place)
                for other in wrong:
                    self.assertIs(is_term(replaced(term, place, other)), False, (term, place))
                if isinstance(part, tuple):
                    self.is_so(False, replaced(term, place, list(part)))
                if isinstance(part, str):
                    self.is_so(False, replaced(term, place, 1))

    def test_a_number_in_the_place_of_a_tuple_and_the_other_way(self):
        for term in SORTS:
            for place in places(term):
                part = at_place(term, place)
                if isinstance(part, tuple):
                    self.is_so(False, replaced(term, place, 1))
                else:
                    self.is_so(False, replaced(term, place, (part,)))

    def test_an_unknown_sort_with_good_parts(self):
        for sort in ("add", "if", "sums", "SUM", "", "yes"):
            self.is_so(False, (sort, "x", "y"))
            self.is_so(False, (sort, 1))

    def test_letall_of_one_to_six_pairs_of_unlike_names(self):
        pairs = tuple((x, ("fun", "y", num(1))) for x in "abcdefg")
        for many in range(1, 7):
            self.is_so(True, ("letall", pairs[:many], num(1)))
        self.is_so(False, ("letall", (), num(1)))
        self.is_so(False, ("letall", pairs, num(1)))
        self.is_so(False, ("letall", (pairs[0], pairs[0]), num(1)))
        self.is_so(False, ("letall", (*pairs[:5], ("c", ("made", "c", ()))), num(1)))

    def test_letall_takes_funs_and_made_terms_alone(self):
        for term in SORTS:
            self.is_so(term[0] in ("fun", "made"), ("letall", (("g", term),), num(1)))
        for thing in (*THINGS, *HUGE, ("fun", "x", num(True)), ("made", "c", "x"), ("fun", "x")):
            self.assertIs(is_term(("letall", (("g", thing),), num(1))), False)

    def test_made_of_none_to_three_names_perhaps_alike(self):
        for names in ((), ("a",), ("a", "b"), ("a", "b", "c"), ("a", "a"), ("a", "a", "a"), ("c", "c", "b")):
            self.is_so(True, ("made", "c", names))
        for names in (("a", "b", "c", "d"), ("a",) * 4, ("a", 1), ("A",), (("a",),), "a", "abc", ["a"], None):
            self.is_so(False, ("made", "c", names))

    def test_by_of_one_to_six_branches_of_unlike_words(self):
        branches = [(c, (), num(1)) for c in "abcdefg"]
        for many in range(1, 7):
            self.is_so(True, pick("x", *branches[:many]))
        self.is_so(False, pick("x"))
        self.is_so(False, pick("x", *branches))
        self.is_so(False, pick("x", branches[0], branches[0]))
        self.is_so(False, pick("x", *branches[:4], ("a", ("y",), num(1))))

    def test_branches_of_none_to_three_unlike_names(self):
        for names in ((), ("a",), ("a", "b"), ("a", "b", "c"), ("x",)):
            self.is_so(True, pick("x", ("c", names, num(1))))
        for names in (("a", "b", "c", "d"), ("a", "a"), ("a", "b", "a"), ("a", 1), "a", "abc", ["a"], None):
            self.is_so(False, pick("x", ("c", names, num(1))))

    def test_three_hundred_pieces(self):
        for rest in (0, 1):
            holds = rest == 0
            self.is_so(holds, sized(300 + rest))
            self.is_so(holds, ("fun", "x", sized(299 + rest)))
            for sort in ("let", "now"):
                self.is_so(holds, (sort, "x", num(1), sized(298 + rest)))
                self.is_so(holds, (sort, "x", sized(298 + rest), num(1)))
                self.is_so(holds, (sort, "x", sized(150), sized(149 + rest)))
            self.is_so(holds, pick("x", ("c", (), sized(100)), ("d", (), sized(99)), ("e", (), sized(100 + rest))))

    def test_the_worths_of_letall_are_pieces(self):
        funs = tuple((letter, ("fun", "x", num(1))) for letter in "abcdef")
        made = tuple((letter, ("made", "c", ())) for letter in "abcdef")
        large = (("f", ("fun", "x", sized(200))), ("g", ("made", "c", ("f", "f", "f"))))
        for rest in (0, 1):
            self.is_so(rest == 0, ("letall", funs, sized(287 + rest)))
            self.is_so(rest == 0, ("letall", made, sized(293 + rest)))
            self.is_so(rest == 0, ("letall", large, sized(97 + rest)))

    def test_sixty_within_one_another(self):
        funs = num(1)
        for _ in range(59):
            funs = ("fun", "x", funs)
        self.is_so(True, funs)
        self.is_so(False, ("fun", "x", funs))
        self.is_so(False, ("let", "x", num(1), funs))
        self.is_so(False, ("let", "x", funs, num(1)))
        self.is_so(False, ("letall", (("x", funs),), num(1)))
        self.is_so(False, pick("x", ("c", (), num(1)), ("d", (), funs)))
        self.is_so(True, unused(59, num(1)))
        self.is_so(False, unused(60, num(1)))

    def test_huge_things_as_parts(self):
        for thing in HUGE:
            for term in (("num", thing), ("name", thing), ("fun", thing, num(1)), ("fun", "x", thing),
                         ("let", "x", thing, thing), ("made", thing, ()), ("made", "c", thing),
                         ("made", "c", (thing,)), ("by", "x", thing), ("by", "x", (thing,)), ("call", thing, thing),
                         ("by", "x", (("c", thing, num(1)),)), ("by", "x", ((thing, (), num(1)),)),
                         ("letall", thing, num(1)), ("letall", (thing,), num(1)), ("letall", (("x", thing),), thing),
                         (thing, "x"), (thing,)):
                self.assertIs(is_term(term), False)
                self.assertIs(is_program(term), False)

    def test_what_is_looked_through_is_not_changed(self):
        thing = ["let", ["x"], [num(1)], {}]
        is_term(thing), is_program(thing), is_name(thing)
        self.assertEqual(thing, ["let", ["x"], [num(1)], {}])


class FreeNamesTest(unittest.TestCase):

    def are(self, names, term):
        self.assertTrue(is_term(term), term)
        self.assertEqual(free_names(term), names)
        self.assertIs(is_program(term), names == [], term)

    def test_each_sort(self):
        self.are([], num(1))
        self.are(["x"], name("x"))
        self.are([], ("fun", "x", name("x")))
        self.are(["y"], ("fun", "x", name("y")))
        self.are(["f", "x"], ("call", "f", "x"))
        self.are(["x", "y"], ("made", "c", ("y", "x", "y")))
        self.are([], ("made", "c", ()))
        for sort in ("sum", "minus", "less", "same"):
            self.are(["a", "b"], (sort, "b", "a"))
            self.are(["a"], (sort, "a", "a"))

    def test_let_and_now_bind_in_what_follows_alone(self):
        for sort in ("let", "now"):
            self.are([], (sort, "x", num(1), name("x")))
            self.are(["x"], (sort, "x", name("x"), name("x")))
            self.are(["x"], (sort, "x", name("x"), num(1)))
            self.are(["y", "z"], (sort, "x", name("z"), name("y")))

    def test_letall_binds_in_all(self):
        pairs = (("f", ("fun", "y", ("call", "g", "y"))), ("g", ("made", "c", ("f", "g"))))
        self.are([], ("letall", pairs, ("call", "f", "g")))
        self.are(["h", "y"], ("letall", pairs, ("call", "h", "y")))
        self.are(["a", "b"], ("letall", (("f", ("made", "c", ("a",))), ("g", ("fun", "a", name("b")))), num(1)))
        self.are(["f"], ("sum", "f", "f"))

    def test_by_binds_in_each_branch_its_own(self):
        self.are(["x"], pick("x", ("c", ("a", "b"), ("sum", "a", "b"))))
        self.are(["b", "x"], pick("x", ("c", ("a",), ("sum", "a", "b")), ("d", ("b",), name("b"))))
        self.are(["a", "x"], pick("x", ("c", ("a",), name("a")), ("d", (), name("a"))))
        self.are(["x"], pick("x", ("c", ("x",), name("x"))))

    def test_words_are_no_names(self):
        self.are([], ("made", "x", ()))
        self.are(["y"], pick("y", ("x", (), ("made", "z", ()))))

    def test_bound_anew_within_and_free_elsewhere(self):
        self.are([], ("fun", "x", ("let", "x", name("x"), ("fun", "x", name("x")))))
        self.are(["x"], ("let", "y", ("fun", "x", name("x")), name("x")))
        self.are(["x"], ("let", "y", name("x"), ("fun", "x", name("x"))))
        self.are(["x"], ("let", "x", ("fun", "y", name("x")), name("x")))
        self.are(["f"], ("let", "g", ("letall", (("f", ("fun", "x", name("f"))),), name("f")), name("f")))

    def test_rising_each_once(self):
        term = ("let", "q", ("sum", "z", "b"), ("let", "r", ("sum", "ab", "a"), ("sum", "z", "aa")))
        self.are(["a", "aa", "ab", "b", "z"], term)

    def test_the_told_list_is_the_askers_own(self):
        term = ("sum", "b", "a")
        names = free_names(term)
        names.append("c")
        self.assertEqual(free_names(term), ["a", "b"])
        self.assertEqual(term, ("sum", "b", "a"))

    def test_a_term_beyond_the_sizes_is_told_of_all_the_same(self):
        term = name("z")
        for _ in range(2000):
            term = ("fun", "x", term)
        self.assertEqual(free_names(term), ["z"])
        self.assertIs(is_program(term), False)

    def test_is_program_wants_a_term_with_each_name_bound(self):
        for term in SORTS:
            self.assertIs(is_program(term), term[0] in ("num", "fun", "let", "now", "letall"), term)
        for thing in (None, [], (), "x", ("num", True), ("fun", "x", ("num", None))):
            self.assertIs(is_program(thing), False)


class NamesOfArgumentsTest(unittest.TestCase):

    def test_by_name(self):
        self.assertIs(is_name(thing="a"), True)
        self.assertIs(is_term(thing=num(1)), True)
        self.assertIs(is_program(thing=num(1)), True)
        self.assertEqual(free_names(term=name("a")), ["a"])
