"""Point 19: each row of a desk, its answers, and its refusals."""

import random
import re
import unittest

from owedonce.desk import Desk
from owedonce.errors import NoDeed, NoKept, NoProgram, NoRow, NoText, TooMany
from owedonce.late import late
from owedonce.plainly import plain
from owedonce.plans import late_plan, prices
from owedonce.seers import least
from owedonce.shops import ledger, run
from owedonce.surely import moved
from owedonce.terms import is_program
from owedonce.texts import read, seen_text, written
from owedonce.twoshops import rule, shop
from tests.helper import Chance, lasting, lets, name, num, told

PAIR = ("let", "a", ("num", 1), ("let", "b", ("sum", "a", "a"), ("made", "c", ("b", "a"))))
PAIR_TEXT = "(let a (num 1) (let b (sum a a) (made c (b a))))"
# Its number is called for again and again plainly, once late.
TWICE = lets([("f", ("fun", "x", num(4))), ("r", ("call", "f", "f"))], ("sum", "r", "r"))
STUCK = lets([("n", num(1)), ("s", ("call", "n", "n"))], ("made", "c", ("n", "s")))
ENDLESS = ("letall", (("f", ("fun", "x", ("call", "f", "x"))),), ("call", "f", "f"))
PROBES = ("names", "steps", "prices", "rule", "show a", "show b", "late a 2", "least a 3")


def all_of(desk):
    """All that can be asked of a desk."""
    return [told(desk.say, row) for row in PROBES]


class DeskTest(unittest.TestCase):

    def setUp(self):
        self.desk = Desk()

    def says(self, row, wanted):
        answer = self.desk.say(row)
        self.assertEqual(answer, wanted, row)
        self.assertIs(type(answer), str)

    def refused(self, said, error, **fields):
        """It is refused, with these fields, and all is as ahead."""
        before = all_of(self.desk)
        with self.assertRaises(error, msg=said) as caught:
            self.desk.say(said)
        for field, worth in fields.items():
            self.assertEqual(getattr(caught.exception, field), worth, said)
        self.assertEqual(all_of(self.desk), before, said)

    def no_row(self, *rows):
        for row in rows:
            self.refused(row, NoRow, row=row)

    def keep(self, x, program):
        self.assertTrue(is_program(program))
        self.says(f"keep {x} {written(program)}", "ok")

    def puts(self, many):
        for at in range(many):
            self.says(f"do put {at} {at}", f"{at + 1} {run(*self.of_queue(at + 1))[-1][1]}")

    def of_queue(self, many):
        return shop("queue"), [("put", at, at) for at in range(many)]


class KeepTest(DeskTest):

    def test_keep_names_show(self):
        self.says("names", "none")
        self.says("keep b " + PAIR_TEXT, "ok")
        self.says("names", "b")
        self.says("show b", PAIR_TEXT)
        self.says("keep abcdefgh (num -7)", "ok")
        self.says("keep a (fun x (name x))", "ok")
        self.says("names", "a abcdefgh b")
        self.says("show abcdefgh", "(num -7)")
        self.says("show b", PAIR_TEXT)
        self.says("show a", "(fun x (name x))")

    def test_an_elder_one_is_gone(self):
        self.keep("a", PAIR)
        self.keep("a", num(5))
        self.says("show a", "(num 5)")
        self.says("names", "a")
        self.says("late a 1", "5 0")

    def test_names_that_are_words_of_rows_too(self):
        for x in ("none", "keep", "names", "do", "queue", "num"):
            self.keep(x, num(1))
        self.says("names", "do keep names none num queue")
        self.says("show keep", "(num 1)")

    def test_no_text_its_field_counted_in_text(self):
        for text, at in (("(num 1", 6), ("(num 1) ", 7), (" (num 1)", 0), ("", 0), (" ", 0), ("(num  1)", 5), ("x", 0),
                         ("(num 01)", 6), ("(num -)", 6), ("(num 1))", 7), ("(num\t1)", 4), ("(num 1)\n", 7),
                         ("(num 1) (num 2)", 7), ("((num 1)", 8), ("(Num 1)", 1), ("(abcdefghi)", 9)):
            self.refused("keep a " + text, NoText, at=at)
            self.refused("keep abcdefgh " + text, NoText, at=at)

    def test_no_program(self):
        for text in ("()", "(num)", "(name x)", "(num a)", "(let a (num 1) (name b))", "(fun fun fun)", "((num 1))",
                     "(made c (x))", "(letall () (num 1))", "(num 1 2)", "(a b)", "(num (1))"):
            self.refused("keep a " + text, NoProgram)
            self.keep("b", PAIR)
            self.refused("keep b " + text, NoProgram)
            self.says("show b", PAIR_TEXT)

    def test_no_text_ahead_of_no_program(self):
        self.refused("keep a (name x", NoText, at=7)
        self.refused("keep a (name x) ", NoText, at=8)

    def test_no_kept(self):
        self.keep("b", PAIR)
        for row in ("show a", "late a 3", "plain a 0", "least a 60", "move a b", "move a a"):
            self.refused(row, NoKept, name="a")
        self.refused("move zz a", NoKept, name="zz")
        self.says("show b", PAIR_TEXT)

    def test_long_texts(self):
        self.refused("keep a (" + "a " * 9000 + ")", NoText, at=18001)
        self.refused("keep a (" + "a " * 9000 + "a)", NoProgram)
        self.refused("keep a (num " + "9" * 9000 + ")", NoText, at=23)
        self.refused("keep a " + "(" * 201, NoText, at=200)


class LookTest(DeskTest):

    def test_late(self):
        self.keep("p", PAIR)
        for d, wanted in ((0, "- 0"), (1, "(c (- -)) 0"), (2, "(c (2 1)) 0"), (3, "(c (2 1)) 0"), (60, "(c (2 1)) 0")):
            self.says(f"late p {d}", wanted)

    def test_plain_and_late(self):
        self.keep("t", TWICE)
        self.says("late t 1", "8 1")
        self.says("plain t 1", "8 2")
        self.says("plain t 0", "- 0")
        self.keep("f", ("fun", "x", name("x")))
        self.says("late f 9", "fun 0")
        self.says("plain f 9", "fun 0")

    def test_deep_looks(self):
        self.keep("o", lets([("one", num(-1))], (
            "letall", (("ones", ("made", "cons", ("one", "ones"))),), name("ones"))))
        self.says("late o 3", "(cons (-1 (cons (-1 (cons (- -)))))) 0")
        self.says("late o 60", seen_text(late(read(self.desk.say("show o")), 60)[0]) + " 0")

    def test_least(self):
        self.keep("p", PAIR)
        self.says("least p 2", "1 2 0")
        self.says("least p 1", "none 0")
        self.says("least p 0", "none 0")
        self.keep("n", num(3))
        self.says("least n 5", "none 0")
        inner = lets([("u", num(1)), ("b", ("sum", "u", "u")), ("c", ("sum", "b", "b"))], name("c"))
        self.keep("q", lets([("no", num(1)), ("f", ("fun", "x", inner)), ("r", ("call", "f", "f"))], name("r")))
        self.says("least q 1", "2 3 3.1 3.2 3.3 1")

    def test_stuck_and_too_many(self):
        self.keep("s", STUCK)
        self.keep("e", ENDLESS)
        for row in ("late", "plain", "least"):
            self.says(f"{row} s 0", "none 0" if row == "least" else "- 0")
            self.assertEqual(told(self.desk.say, f"{row} s 1")[0], "told")
            self.assertEqual(told(self.desk.say, f"{row} s 2"), ("Stuck", (2,)))
            self.refused(f"{row} e 1", TooMany)
            self.assertEqual(told(self.desk.say, f"{row} e 0")[0], "told")

    def test_the_limit_is_the_one_that_is_told_nowhere(self):
        self.keep("a", lasting(20000))
        self.keep("b", lasting(20001))
        for row in ("late", "plain", "least"):
            self.assertEqual(told(self.desk.say, f"{row} a 1")[0], "told")
            self.refused(f"{row} b 1", TooMany)

    def test_looks_that_are_none(self):
        self.keep("p", PAIR)
        for row in ("late", "plain", "least"):
            for d in ("61", "-1", "-0", "00", "02", "+2", "2.0", "", "a", "p", "(2)", "()", "2)", "2)(3", "100", "1" * 19,
                      "1" * 20, "0" * 20, "2\t", "2\n", "\u0662", "\u00b2", "1_0", "0x1", "None", "-", "2,"):
                self.no_row(f"{row} p {d}")
            for d in ("0", "9", "10", "60"):
                self.assertEqual(told(self.desk.say, f"{row} p {d}")[0], "told")


class MoveTest(DeskTest):

    def test_moved_onto_itself_and_others(self):
        self.keep("p", TWICE)
        wanted = written(moved(TWICE))
        self.assertNotEqual(wanted, written(TWICE))
        self.says("move p q", "ok")
        self.says("show q", wanted)
        self.says("show p", written(TWICE))
        self.says("late q 1", "8 1")
        self.keep("r", num(1))
        self.says("move p r", "ok")
        self.says("show r", wanted)
        self.says("move p p", "ok")
        self.says("show p", wanted)
        self.says("names", "p q r")
        self.says("move q p", "ok")
        self.says("show p", wanted)


class HistoryTest(DeskTest):

    def test_the_queue_at_first(self):
        self.says("do put 0 5", "1 2")
        done = run(shop("queue"), [("put", 0, 5), ("take", 1, 0), ("first", 2, 0), ("first", 1, -3)])
        self.says("do take 1 0", f"5 {done[1][1]}")
        self.says("do first 2 0", f"-1 {done[2][1]}")
        self.says("do first 1 -3", f"5 {done[3][1]}")
        self.says("steps", str(sum(steps for _, steps in done)))

    def test_nothing_was_done(self):
        for _ in range(2):
            self.says("prices", "none")
            self.says("rule", "none")
            self.says("steps", "0")
            self.refused("back", NoDeed)
            self.says("open queue", "ok")
        self.says("open counter", "ok")
        self.says("prices", "none")
        self.says("rule", "none")
        self.says("steps", "0")
        self.refused("back", NoDeed)

    def test_open_anew(self):
        self.puts(3)
        self.no_row("do more 0 0", "do digit 0 0")
        self.says("open counter", "ok")
        self.says("steps", "0")
        self.no_row("do put 0 0", "do more 1 0")
        self.says("do more 0 0", f"0 {run(shop('counter'), [('more', 0, 0)])[0][1]}")
        self.says("open counter", "ok")
        self.says("prices", "none")
        self.says("open queue", "ok")
        self.puts(2)
        self.says("open queue", "ok")
        self.refused("back", NoDeed)
        self.puts(2)

    def test_open_and_back_leave_what_is_kept(self):
        self.keep("a", PAIR)
        self.puts(2)
        self.says("back", "ok")
        self.says("open counter", "ok")
        self.says("names", "a")
        self.says("show a", PAIR_TEXT)

    def test_back(self):
        self.puts(4)
        self.says("back", "ok")
        self.says("back", "ok")
        self.no_row("do put 3 0")
        self.says("do take 2 0", f"0 {run(shop('queue'), [*self.of_queue(2)[1], ('take', 2, 0)])[-1][1]}")
        for _ in range(3):
            self.says("back", "ok")
        self.refused("back", NoDeed)
        self.says("steps", "0")
        self.puts(1)

    def test_what_was_taken_back_was_never_done(self):
        history = self.of_queue(9)[1]
        self.puts(9)
        steps = run(shop("queue"), [*history, ("take", 9, 0)])[-1][1]
        for _ in range(3):
            self.says("do take 9 0", f"0 {steps}")
            self.says("back", "ok")

    def test_answers_far_away(self):
        for n in (10 ** 18, -10 ** 18, 0, -1):
            self.says("open queue", "ok")
            self.assertEqual(self.desk.say(f"do put 0 {n}").split(" ")[0], "1")
            self.assertEqual(self.desk.say("do first 1 0").split(" ")[0], str(n))

    def test_digits(self):
        self.says("open counter", "ok")
        for at in range(5):
            self.assertEqual(self.desk.say(f"do more {at} {at - 2}").split(" ")[0], "0")
        for n, digit in ((0, "1"), (1, "0"), (2, "1"), (3, "0"), (60, "0")):
            self.assertEqual(self.desk.say(f"do digit 5 {n}").split(" ")[0], digit)
        self.no_row("do digit 5 61", "do digit 5 -1", "do digit 5 1000000000000000000", "do digit 5 -0")
        # Another deed's n may be any.
        self.assertEqual(self.desk.say("do more 5 61").split(" ")[0], "0")
        self.assertEqual(self.desk.say("do more 5 -1").split(" ")[0], "0")

    def test_versions(self):
        self.puts(3)
        for version in (0, 1, 2, 3):
            self.assertEqual(self.desk.say(f"do first {version} 0").split(" ")[0], "0" if version else "-1")
            self.says("back", "ok")
        self.no_row("do first 4 0", "do first 5 0", "do first -1 0", "do first 1000 0", "do first 03 0", "do first +3 0",
                    "do first -0 0", "do first a 0", "do first  0", "do first 10000000000000000000 0")

    def test_numbers_of_nineteen_and_twenty_figures(self):
        for n in ("1000000000000000000", "-1000000000000000000", "0", "-1", "999999999999999999"):
            self.assertEqual(told(self.desk.say, f"do put 0 {n}")[0], "told")
        for n in ("1000000000000000001", "9999999999999999999", "-1000000000000000001", "10000000000000000000",
                  "-10000000000000000000", "00000000000000000001", "-0", "00", "01", "-01", "+1", "1.0", "1e3", "",
                  "--1", "a", "()", "(1)", "1)", "1)(1", "\u0661", "1\n", "\t1", "1" * 5000, "-"):
            self.no_row(f"do put 0 {n}")

    def test_a_sixty_first_deed(self):
        self.puts(60)
        self.refused("do put 60 1", TooMany)
        self.refused("do take 0 1", TooMany)
        # A row that is none goes first.
        self.no_row("do put 61 1", "do more 0 1", "do put 60 01", "do put 60")
        self.says("back", "ok")
        self.assertEqual(self.desk.say("do take 59 0").split(" ")[0], "0")
        self.refused("do take 60 0", TooMany)
        self.says("back", "ok")
        self.says("back", "ok")
        self.no_row("do take 59 0")
        self.assertEqual(self.desk.say("do take 58 0").split(" ")[0], "0")
        self.assertEqual(len(self.desk.say("prices").split(" ")), 59)

    def test_prices_rule_steps(self):
        for seed in range(24):
            shop_name = ("queue", "counter")[seed % 2]
            history = Chance(seed).own_history(shop_name, most=25)
            self.says(f"open {shop_name}", "ok")
            done = run(shop(shop_name), history)
            for (deed, version, n), (answer, steps) in zip(history, done):
                self.says(f"do {deed} {version} {n}", f"{answer} {steps}")
            book = ledger(shop(shop_name), history)
            self.says("prices", " ".join(str(price) for price in prices(book, late_plan(book))))
            self.says("rule", " ".join(str(price) for price in prices(book, rule(shop_name, history))))
            self.says("steps", str(sum(steps for _, steps in done)))


class NoRowTest(DeskTest):

    def test_rows_of_no_word_and_of_none_such(self):
        self.keep("a", PAIR)
        self.no_row("", " ", "  ", "\n", "\t", "a", "ok", "none", "say", "names names", "NAMES", "Names", "name", "(names)",
                    "names\n", "names\t", "\tnames", "seer a 2", "rows a 2", "run", "order", "ledger", "done", "0", "-1",
                    "\u00e9", "keepa (num 1)", "nam es", "names\x00", "names\u00a0")

    def test_words_too_many_and_too_few(self):
        self.keep("a", PAIR)
        for row in ("names", "back", "prices", "rule", "steps"):
            self.no_row(row + " a", row + " ", " " + row, row + "  ", row + " " + row, row + " 0", row.upper(),
                        row.capitalize(), row + "\n", row[:-1])
        for row in ("show a", "late a 2", "plain a 2", "least a 2", "move a b", "open queue", "open counter", "do put 0 1"):
            words = row.split(" ")
            for at, word in enumerate(words):
                before, behind = words[:at], words[at + 1:]
                for bent in ([], [""], ["", word], [word, ""], [word, word], ["\t" + word], [word + "\n"]):
                    self.no_row(" ".join([*before, *bent, *behind]))
                if word.isalpha():
                    self.no_row(" ".join([*before, word.upper(), *behind]))
            self.no_row(row + " ", row + " a", row + " 0", row + "\n", row + "\t", row.replace(" ", "\t"),
                        row.replace(" ", "\n"), row.replace(" ", "  "))
            self.assertEqual(told(self.desk.say, row)[0], "told")
            self.desk.say("open queue")
            self.keep("a", PAIR)

    def test_of_keep(self):
        self.keep("a", PAIR)
        self.no_row("keep", "keep ", "keep a", "keep  ", "keep  (num 1)", " keep a (num 1)", "keep A (num 1)",
                    "keep abcdefghi (num 1)", "keep 1 (num 1)", "keep (num 1)", "keep (num 1) a", "Keep a (num 1)",
                    "keep a\t(num 1)", "keep\ta (num 1)", "keep a1 (num 1)", "keep \u00e9 (num 1)", "keep - (num 1)")
        # Where the name is one, what follows is a text, if also one without signs.
        self.refused("keep a ", NoText, at=0)
        self.refused("keep a  ", NoText, at=0)
        self.refused("keep a  (num 1)", NoText, at=0)
        self.refused("keep num 1)", NoText, at=0)

    def test_names_that_are_none(self):
        self.keep("a", PAIR)
        for x in ("", "A", "abcdefghi", "1", "a1", "-", "a.b", "(a)", "\u00e9", "a\n", "a\t"):
            self.no_row(f"show {x}", f"late {x} 2", f"plain {x} 2", f"least {x} 2", f"move {x} a", f"move a {x}")

    def test_shops_that_are_none(self):
        self.puts(1)
        for word in ("", "a", "Queue", "queues", "count", "put", "0", "(queue)", "queue\n", "none"):
            self.no_row(f"open {word}")

    def test_deeds_that_are_none(self):
        self.puts(1)
        for word in ("", "a", "Put", "puts", "more", "digit", "0", "(put)", "put\n", "none", "queue"):
            self.no_row(f"do {word} 0 1")
        self.says("open counter", "ok")
        for word in ("", "put", "take", "first", "More", "digits", "counter"):
            self.no_row(f"do {word} 0 1")

    def test_no_row_goes_first(self):
        self.no_row("late a 61", "plain a x", "least a -1", "move a B", "keep A (num", "keep A (a)", "show A", "late A 3")
        self.refused("late a 60", NoKept, name="a")

    def test_the_field_is_the_row(self):
        for row in ("", " ", "names ", "keep a", "do put 0 x" * 2000, "x" * 20000):
            with self.assertRaises(NoRow) as caught:
                self.desk.say(row)
            self.assertEqual(caught.exception.row, row)


class DesksTest(DeskTest):

    def test_two_desks_at_once(self):
        other = Desk()
        self.keep("a", PAIR)
        self.puts(3)
        self.assertEqual(other.say("names"), "none")
        self.assertEqual(other.say("steps"), "0")
        self.assertEqual(other.say("open counter"), "ok")
        self.assertEqual(other.say("keep a (num 1)"), "ok")
        self.assertEqual(other.say("keep b (num 2)"), "ok")
        self.assertEqual(other.say("do more 0 0").split(" ")[0], "0")
        self.says("names", "a")
        self.says("show a", PAIR_TEXT)
        self.assertEqual(self.desk.say("do take 3 0").split(" ")[0], "0")
        self.assertEqual(other.say("show a"), "(num 1)")
        self.assertEqual(other.say("back"), "ok")
        self.assertEqual(told(other.say, "back"), ("NoDeed",))
        self.assertEqual(len(self.desk.say("prices").split(" ")), 4)
        self.assertEqual(all_of(Desk())[0], ("told", "none"))

    def test_asked_again_the_same(self):
        self.keep("a", PAIR)
        self.puts(5)
        self.assertEqual(all_of(self.desk), all_of(self.desk))

    def test_by_the_name_shown(self):
        self.assertEqual(self.desk.say(row="names"), "none")


class OtherDesk:
    """A desk once more, its rows told apart by patterns."""

    NAME, LOOK, NUMBER = "([a-z]{1,8})", "([0-9]|[1-5][0-9]|60)", "(0|-?[1-9][0-9]{0,18})"
    ROWS = {
        "keep": f"keep {NAME} (?s:(.*))", "names": "names", "show": f"show {NAME}", "late": f"late {NAME} {LOOK}",
        "plain": f"plain {NAME} {LOOK}", "least": f"least {NAME} {LOOK}", "move": f"move {NAME} {NAME}",
        "open": "open (queue|counter)", "do": f"do (put|take|first|more|digit) {NUMBER} {NUMBER}", "back": "back",
        "prices": "prices", "rule": "rule", "steps": "steps"}

    def __init__(self):
        self.kept, self.shop, self.history = {}, "queue", []

    def say(self, row):
        for word, pattern in self.ROWS.items():
            found = re.fullmatch(pattern, row)
            if found:
                return getattr(self, "row_" + word)(row, *found.groups())
        raise NoRow(row)

    def get(self, x):
        if x not in self.kept:
            raise NoKept(x)
        return self.kept[x]

    def row_keep(self, _, x, text):
        program = read(text)
        if not is_program(program):
            raise NoProgram
        self.kept[x] = program
        return "ok"

    def row_names(self, _):
        return " ".join(sorted(self.kept)) or "none"

    def row_show(self, _, x):
        return written(self.get(x))

    def row_late(self, _, x, d):
        seen, steps = late(self.get(x), int(d))
        return f"{seen_text(seen)} {steps}"

    def row_plain(self, _, x, d):
        seen, steps = plain(self.get(x), int(d))
        return f"{seen_text(seen)} {steps}"

    def row_least(self, _, x, d):
        numbers, steps = least(self.get(x), int(d))
        numbers = " ".join(".".join(str(part) for part in number) for number in numbers)
        return f"{numbers or 'none'} {steps}"

    def row_move(self, _, x, y):
        self.kept[y] = moved(self.get(x))
        return "ok"

    def row_open(self, _, shop_name):
        self.shop, self.history = shop_name, []
        return "ok"

    def row_do(self, row, deed, version, n):
        own = {"queue": ("put", "take", "first"), "counter": ("more", "digit")}[self.shop]
        version, n = int(version), int(n)
        if deed not in own or version not in range(len(self.history) + 1) or abs(n) > 10 ** 18:
            raise NoRow(row)
        if deed == "digit" and n not in range(61):
            raise NoRow(row)
        if len(self.history) == 60:
            raise TooMany
        self.history.append((deed, version, n))
        answer, steps = run(shop(self.shop), self.history)[-1]
        return f"{answer} {steps}"

    def row_back(self, _):
        if not self.history:
            raise NoDeed
        self.history.pop()
        return "ok"

    def told_prices(self, plan):
        book = ledger(shop(self.shop), self.history)
        return " ".join(str(price) for price in prices(book, plan)) or "none"

    def row_prices(self, _):
        return self.told_prices(late_plan(ledger(shop(self.shop), self.history)))

    def row_rule(self, _):
        return self.told_prices(rule(self.shop, self.history))

    def row_steps(self, _):
        return str(sum(steps for _, steps in run(shop(self.shop), self.history)))


class ChanceTest(unittest.TestCase):

    def row(self, chance, texts, many):
        x, y = chance.choice("abc"), chance.choice("abcd")
        d, n = chance.choice(("0", "1", "2", "3", "60", "61", "-1", "02")), chance.choice(("0", "1", "5", "-1", "60", "61"))
        version = str(max(0, many - chance.randrange(3))) if chance.random() < 0.8 else chance.choice(("-1", "70", "x"))
        deed = chance.choice(("put", "take", "first", "put", "more", "digit"))
        row = chance.choice((
            f"keep {x} {chance.choice(texts)}", f"show {x}", "names", f"late {x} {d}", f"plain {x} {d}", f"least {x} {d}",
            f"move {x} {y}", *[f"do {deed} {version} {n}"] * 9, "prices", "rule", "steps", "back"))
        if chance.random() < 0.02:
            row = chance.choice(("open queue", "open counter"))
        if chance.random() < 0.06:
            at = chance.randrange(len(row) + 1)
            row = row[:at] + chance.choice((" ", "", "a", "0", "\n", "(", "-")) + row[at + chance.randrange(2):]
        return row

    def test_told_and_refused_as_by_another_desk(self):
        texts = [written(one) for one in (PAIR, TWICE, STUCK, ENDLESS, num(3))] + ["(a", "(a)", "(num 1) "]
        texts += [written(Chance(seed).program(4)) for seed in range(10)]
        outcomes = set()
        for seed in range(25):
            chance, one, other = random.Random(seed), Desk(), OtherDesk()
            for _ in range(120):
                row = self.row(chance, texts, len(other.history))
                outcome = told(one.say, row)
                self.assertEqual(outcome, told(other.say, row), row)
                outcomes.add(outcome[0])
        self.assertEqual(outcomes, {"told", "NoRow", "NoText", "NoProgram", "NoKept", "NoDeed", "TooMany", "Stuck"})
