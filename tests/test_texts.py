"""Point 18: how things and what is seen are written, and how texts are read or refused."""

import random
import unittest

from owedonce.errors import NoText, OwedError
from owedonce.late import late
from owedonce.terms import is_program
from owedonce.texts import read, seen_text, written
from tests.helper import Chance, begins_text, is_text, lets, num, other_read, other_seen_text, other_written, told

SIGNS = ("", "(", ")", " ", "a", "z", "A", "0", "1", "9", "-", "+", "_", ".", "\t", "\n", "\u00e9", "\u0661", "\u00b2")


def within(many):
    """A tuple so many within one another."""
    thing = ()
    for _ in range(many - 1):
        thing = (thing,)
    return thing


class WrittenTest(unittest.TestCase):

    def test_each_sort_of_thing(self):
        for thing, text in (
                ("a", "a"), ("abcdefgh", "abcdefgh"), ("let", "let"), (0, "0"), (-1, "-1"), (7, "7"), (120, "120"),
                (10 ** 18, "1" + "0" * 18), (-10 ** 18, "-1" + "0" * 18), (10 ** 18 - 1, "9" * 18), ((), "()"),
                (("a",), "(a)"), ((5,), "(5)"), (("a", "b"), "(a b)"), (((),), "(())"), (((), ()), "(() ())"),
                (("a", (), -3, ("b", 0)), "(a () -3 (b 0))"), ((((("x",), "y"), 1), 2), "((((x) y) 1) 2)"),
                (("fun",), "(fun)"), (("none",), "(none)")):
            self.assertEqual(written(thing), text)
            self.assertIs(type(written(thing)), str)

    def test_a_program(self):
        program = ("let", "a", ("num", -1), ("by", "a", (("yes", (), ("name", "a")), ("c", ("p", "q"), ("num", 0)))))
        self.assertEqual(written(program), "(let a (num -1) (by a ((yes () (name a)) (c (p q) (num 0)))))")

    def test_two_hundred_within_one_another_and_more(self):
        for many in (1, 2, 199, 200, 201, 300):
            self.assertEqual(written(within(many)), "(" * many + ")" * many)

    def test_many_beside_one_another(self):
        self.assertEqual(written(("a",) * 5000), "(" + " ".join("a" * 5000) + ")")
        self.assertEqual(written(((),) * 5000), "(" + " ".join(["()"] * 5000) + ")")

    def test_as_by_another_writer(self):
        for seed in range(2000):
            thing = Chance(seed).thing()
            self.assertEqual(written(thing), other_written(thing))


class ReadTest(unittest.TestCase):

    def refused(self, text, at):
        with self.assertRaises(NoText) as caught:
            read(text)
        self.assertEqual(caught.exception.at, at, text)
        self.assertIsInstance(caught.exception, OwedError)

    def test_what_written_tells(self):
        for seed in range(2000):
            thing = (Chance(seed).thing(),)
            again = read(written(thing))
            self.assertEqual(again, thing)
            self.assertIs(type(again), tuple)
        for many in (1, 2, 199, 200):
            self.assertEqual(read("(" * many + ")" * many), within(many))

    def test_programs_of_all_sorts(self):
        for seed in range(300):
            program = Chance(seed).program()
            if is_program(program):
                self.assertEqual(read(written(program)), program)
        deep = num(1)
        for at in range(59):
            deep = ("by", "x", (("yes", ("x",), deep), ("no", (), num(at))))
        deep = ("fun", "x", deep[2][0][2])
        self.assertTrue(is_program(deep))
        self.assertEqual(read(written(deep)), deep)

    def test_kinds_of_parts(self):
        thing = read("(a 0 -1 (b) ())")
        self.assertEqual(thing, ("a", 0, -1, ("b",), ()))
        self.assertEqual([type(part) for part in thing], [str, int, int, tuple, tuple])

    def test_blanks(self):
        for text, at in ((" (a)", 0), ("( a)", 1), ("(a )", 3), ("(a  b)", 3), ("(a b) ", 5), ("() ()", 2), ("( )", 1),
                         ("(()())", 3), ("((a)(b))", 4), ("((a)b)", 4), ("(a(b))", 2), ("(() )", 4), (" ", 0),
                         ("(a\tb)", 2), ("(a\nb)", 2), ("(a)\n", 3), ("\n(a)", 0)):
            self.refused(text, at)

    def test_numbers(self):
        for text, wanted in (("(0)", (0,)), ("(-1)", (-1,)), ("(10)", (10,)), ("(1" + "0" * 18 + ")", (10 ** 18,)),
                             ("(-1" + "0" * 18 + ")", (-10 ** 18,)), ("(" + "9" * 18 + ")", (10 ** 18 - 1,))):
            self.assertEqual(read(text), wanted)
        for text, at in (("(00)", 2), ("(01)", 2), ("(-)", 2), ("(-0)", 2), ("(-01)", 2), ("(- 1)", 2), ("(--1)", 2),
                         ("(-", 2), ("(+1)", 1), ("(1-)", 2), ("(1a)", 2), ("(a1)", 2), ("(-a)", 2), ("(1.5)", 2),
                         ("(1_0)", 2), ("(a 007)", 4), ("(0-1)", 2), ("(-1-1)", 3), ("(1(2))", 2), ("(1 -0 1)", 4)):
            self.refused(text, at)

    def test_numbers_just_beyond_and_far_beyond(self):
        # Refused is the first figure with which it is beyond: what is ahead of that could end there.
        for ahead in ("", "-"):
            base = 1 + len(ahead)
            self.refused("(" + ahead + "1" + "0" * 17 + "01)", base + 19)
            self.refused("(" + ahead + "1" + "0" * 17 + "1)", base + 18)
            self.refused("(" + ahead + "2" + "0" * 18 + ")", base + 18)
            self.refused("(" + ahead + "9" * 19 + ")", base + 18)
            self.refused("(" + ahead + "1" + "0" * 19 + ")", base + 19)
            for many in (100, 1000, 5000, 19000):
                self.refused("(" + ahead + "1" * many + ")", base + 18)
                self.refused("(" + ahead + "1" + "0" * many + ")", base + 19)
                self.refused("(" + ahead + "1" * many, base + 18)
                self.refused("(" + "0" * many + ")", 2)

    def test_words(self):
        self.assertEqual(read("(abcdefgh zyxwvuts)"), ("abcdefgh", "zyxwvuts"))
        for text, at in (("(abcdefghi)", 9), ("(a abcdefghijkl b)", 11), ("(" + "a" * 19000 + ")", 9), ("(A)", 1),
                         ("(aB)", 2), ("(a_b)", 2), ("(a.b)", 2), ("(a,b)", 2), ("(\u00e9)", 1), ("(a\u00e9)", 2),
                         ("(\u0661)", 1), ("(1\u0661)", 2), ("(\u00b2)", 1), ("(1\u00b2)", 2), ("([)", 1), ("(a;)", 2),
                         ("(a\x00)", 2), ("(`)", 1), ("({)", 1), ("(/)", 1), ("(:)", 1)):
            self.refused(text, at)

    def test_what_is_no_tuple(self):
        for text in ("a", "5", "-5", ")", "a b", "a)", "[]", "x(a)", "0"):
            self.refused(text, 0)

    def test_texts_that_end_too_soon(self):
        self.refused("", 0)
        whole = "(a (b -1 ()) abcdefgh 1000000000000000000 ((c) 0))"
        for at in range(len(whole)):
            self.refused(whole[:at], at)
        self.assertEqual(read(whole), ("a", ("b", -1, ()), "abcdefgh", 10 ** 18, (("c",), 0)))
        self.refused("(" * 200, 200)

    def test_signs_behind_the_last_bracket(self):
        for more in (")", "(", " ", "a", "1", "-", "()", "\n", "\u00e9"):
            self.refused("()" + more, 2)
            self.refused("(a (b))" + more, 7)

    def test_two_hundred_brackets_and_one_more(self):
        self.refused("(" * 201 + ")" * 201, 200)
        self.refused("(" * 201, 200)
        self.refused("(" * 20000, 200)
        self.refused("(a " * 201 + ")" * 201, 600)
        # Those that are closed don't count.
        text = "(" + " ".join(["(" * 199 + ")" * 199] * 40) + ")"
        self.assertEqual(read(text), (within(199),) * 40)
        self.refused(text[:-1] + " " + "(" * 200, len(text) + 199)

    def test_twenty_thousand_signs(self):
        for part, many in (("a", 9999), ("()", 6666), ("-1", 6666), ("abcdefgh", 2222), ("(b (c))", 2499)):
            text = "(" + " ".join([part] * many) + ")"
            self.assertLessEqual(len(text), 20000)
            self.assertEqual(written(read(text)), text)
            self.refused(text[:-1], len(text) - 1)
            self.refused(text[:-1] + "!", len(text) - 1)

    def test_a_text_bent_at_each_place(self):
        texts = ["(a (b -10 ()) abcdefgh 1000000000000000000 ((c) 0) -999999999999999999)", "()",
                 "(let a (num 1) (name a))", *[written((Chance(seed).thing(3), "b")) for seed in range(12)]]
        many = 0
        for text in texts:
            for at in range(len(text) + 1):
                for sign in SIGNS:
                    for bent in (text[:at] + sign + text[at:], text[:at] + sign + text[at + 1:], text[:at] + sign):
                        self.assertEqual(told(read, bent), told(other_read, bent), bent)
                        many += 1
        self.assertGreater(many, 10000)

    def test_chance_signs(self):
        chance = random.Random(7)
        outcomes = set()
        for _ in range(20000):
            text = "".join(chance.choice("(((()))) aaz019-(  )b") for _ in range(chance.randrange(12)))
            one = told(read, text)
            self.assertEqual(one, told(other_read, text), text)
            outcomes.add(one[0])
        self.assertEqual(outcomes, {"told", "NoText"})

    def test_the_field_is_the_first_sign_at_which_no_text_goes_on(self):
        """The other reader by its own: what begins a text, and what is one."""
        for text in ("", "(", "(a", "(a ", "(-", "(-1", "(0", "((", "()", "(a)"):
            self.assertTrue(begins_text(text), text)
        for text in (")", "a", " ", "(00", "(-0", "( ", "(a  ", "())", "(A", "(abcdefghi", "(1" + "0" * 19):
            self.assertFalse(begins_text(text), text)
        self.assertTrue(is_text("(a 1 ())"))


class SeenTextTest(unittest.TestCase):

    def test_each_seen(self):
        for seen, text in (
                (None, "-"), (0, "0"), (-5, "-5"), (10 ** 60 - 1, "9" * 60), (-10 ** 60 + 1, "-" + "9" * 60),
                (("fun",), "fun"), (("c", ()), "(c ())"), (("c", (1,)), "(c (1))"), (("c", (2, 1)), "(c (2 1))"),
                (("c", (None,)), "(c (-))"), (("c", (None, ("fun",), 3)), "(c (- fun 3))"),
                (("fun", ()), "(fun ())"), (("fun", (("fun",),)), "(fun (fun))"), (("fun", (None,)), "(fun (-))"),
                (("cons", (1, ("cons", (None, None)))), "(cons (1 (cons (- -))))"),
                (("a", (("b", (("c", ()),)), ("d", ()), -1)), "(a ((b ((c ()))) (d ()) -1))")):
            self.assertEqual(seen_text(seen), text)
            self.assertIs(type(seen_text(seen)), str)

    def test_what_late_tells(self):
        ones = ("letall", (("ones", ("made", "cons", ("one", "ones"))),), ("name", "ones"))
        program = lets([("one", num(1))], ones)
        seen, _ = late(program, 60)
        self.assertEqual(seen_text(seen), "(cons (1 " * 59 + "(cons (- -))" + "))" * 59)
        self.assertEqual(seen_text(late(program, 0)[0]), "-")
        self.assertEqual(seen_text(late(("fun", "x", ("name", "x")), 5)[0]), "fun")

    def test_as_by_another_writer(self):
        many = 0
        for seed in range(600):
            chance = Chance(seed)
            program = chance.program()
            if is_program(program):
                tells = told(late, program, chance.look())
                if tells[0] == "told":
                    self.assertEqual(seen_text(tells[1][0]), other_seen_text(tells[1][0]))
                    many += 1
        self.assertGreater(many, 100)


class ArgumentsTest(unittest.TestCase):

    def test_by_the_names_shown(self):
        self.assertEqual(written(thing=("a",)), "(a)")
        self.assertEqual(read(text="(a)"), ("a",))
        self.assertEqual(seen_text(seen=("a", ())), "(a ())")
