"""Points 1 to 3: what holds of the late run and the plain one, over many programs."""

import copy
import unittest

from owedonce.inputs import on, parts_asked
from owedonce.late import late, rows
from owedonce.plainly import plain
from owedonce.plans import asks, is_let_by, lacking, late_plan, past, prices, spent
from owedonce.seers import all_seers, least, seer, seer_rows
from owedonce.shops import ledger, run
from owedonce.surely import moved, surely
from owedonce.terms import free_names, is_program, is_term
from owedonce.texts import read, seen_text, written
from owedonce.twoshops import rule, shop
from tests.helper import (
    Chance, Reckoner, ReckonerTest, lasting, lets, name, num, other_all_seers, other_late, other_least, other_ledger,
    other_on, other_parts, other_plain, other_rows, other_run, other_seer, other_seer_rows, pick, stripped, told)

SEEDS = range(1500)


def chances():
    """Programs, looks and limits, the same ones each time."""
    for seed in SEEDS:
        chance = Chance(seed)
        program = chance.program()
        if is_program(program):
            yield program, chance.look(), chance.random.choice((5, 20, 60, 200, 1000))


def sees_more(look):
    """Looks that see at least what a look sees."""
    if look is None:
        return [0, (), 1]
    if isinstance(look, int):
        return [look + 1, look + 7]
    return [(*look, 1), (*look, None, (2,)), tuple(3 if part is None else part for part in look)]


class SameTest(ReckonerTest):

    def test_told_and_refused_as_by_another_reckoner(self):
        outcomes = set()
        for program, look, limit in chances():
            for run, other in ((plain, other_plain), (late, other_late), (rows, other_rows)):
                one = told(run, program, look, limit=limit)
                self.assertEqual(one, told(other, program, look, limit), (run, program, look, limit))
                outcomes.add((run, one[0]))
        self.assertEqual(len(outcomes), 9)

    def test_late_tells_what_the_plain_run_tells_in_no_more_steps(self):
        fewer = 0
        for program, look, limit in chances():
            one = told(plain, program, look, limit=limit)
            other = told(late, program, look, limit=limit)
            if one[0] == "told":
                self.assertEqual(other[0], "told")
                self.assertEqual(other[1][0], one[1][0])
                self.assertLessEqual(other[1][1], one[1][1])
                fewer += other[1][1] < one[1][1]
            if one[0] == "Stuck":
                self.assertEqual(one, other)
        self.assertGreater(fewer, 10)

    def test_rows_are_of_one_number_each_and_their_steps_are_all(self):
        for program, look, limit in chances():
            one = told(rows, program, look, limit=limit)
            run = told(late, program, look, limit=limit)
            if run[0] != "told":
                self.assertEqual(one, run)
                continue
            numbers = [row[0] for row in one[1]]
            self.assertEqual(numbers, sorted(set(numbers)))
            self.assertEqual(sum(row[1] for row in one[1]), run[1][1])
            for number, _, asked in one[1]:
                self.assertEqual(asked, sorted(set(asked)))
                for other in asked:
                    self.assertIn(other, numbers)
                    # Put by ahead of it, or within it.
                    self.assertTrue(other < number or other[:len(number)] == number, (number, other))

    def test_a_look_that_sees_more_has_all_rows(self):
        for program, look, _ in chances():
            if told(rows, program, look)[0] == "told":
                fewer = rows(program, look)
                for more in sees_more(look):
                    one = told(rows, program, more)
                    if one[0] == "told":
                        for row in fewer:
                            self.assertIn(row, one[1])

    def test_nothing_that_is_handed_in_is_changed(self):
        for program, look, limit in list(chances())[:200]:
            kept = copy.deepcopy((program, look))
            first = [told(run, program, look, limit=limit) for run in (plain, late, rows)]
            self.assertEqual((program, look), kept)
            self.assertEqual([told(run, program, look, limit=limit) for run in (plain, late, rows)], first)


def small_chances():
    """Programs, most of them with few lets, looks and limits, and the chance to go on with."""
    for seed in SEEDS:
        chance = Chance(seed)
        program = chance.program(chance.random.choice((2, 3, 5, 9)))
        if is_program(program):
            yield chance, program, chance.look(), chance.random.choice((20, 60, 200, 1000))


class SeersTest(ReckonerTest):

    def test_told_and_refused_as_by_another_reckoner(self):
        outcomes = set()
        for chance, program, look, limit in small_chances():
            one = told(least, program, look, limit=limit)
            self.assertEqual(one, told(other_least, program, look, limit))
            reckoner = Reckoner(True, limit)
            told(reckoner.run, program, look)
            numbers = list(reckoner.rows)
            chance.random.shuffle(numbers)
            numbers = numbers[chance.random.randrange(2):] + [(chance.random.randrange(1, 12),)]
            for call, other in ((seer, other_seer), (seer_rows, other_seer_rows)):
                two = told(call, program, numbers, look, limit=limit)
                self.assertEqual(two, told(other, program, numbers, look, limit), (program, numbers, look, limit))
                outcomes.add((call, two[0]))
            most = chance.random.choice((1, 2, 8, 40))
            three = told(all_seers, program, look, most=most, limit=limit)
            if three[0] == "told":
                three[1].sort(key=lambda way: way[0])
            self.assertEqual(three, told(other_all_seers, program, look, most, limit), (program, look, most, limit))
            outcomes |= {(least, one[0]), (all_seers, three[0])}
        self.assertEqual(len(outcomes), 3 + 4 + 4 + 2)

    def test_late_has_the_least_steps_of_all_seers_and_tells_what_each_tells(self):
        many = more = 0
        for _, program, look, _ in small_chances():
            ways = told(all_seers, program, look)
            if ways[0] != "told" or told(late, program, look)[0] != "told":
                # Where late is stuck, each seer is refused.
                self.assertTrue(ways[0] == "TooMany" or ways[1] == [])
                continue
            seen, steps = late(program, look)
            self.assertEqual({way[1] for way in ways[1]}, {seen})
            self.assertEqual(min(way[2] for way in ways[1]), steps)
            numbers, _ = least(program, look)
            self.assertIn((numbers, seen, steps), ways[1])
            for way in ways[1]:
                self.assertTrue(set(numbers) <= set(way[0]))
                self.assertEqual(seer(program, way[0], look), way[1:])
            many += 1
            more += max(way[2] for way in ways[1]) > steps
        self.assertGreater(many, 300)
        self.assertGreater(more, 20)

    def test_the_least_seer_and_those_of_all_but_one(self):
        for _, program, look, _ in small_chances():
            if told(least, program, look)[0] != "told":
                continue
            numbers, steps = least(program, look)
            self.assertEqual(seer(program, numbers, look), late(program, look))
            self.assertEqual(seer_rows(program, numbers, look), rows(program, look))
            self.assertEqual(steps, late(program, look)[1])
            for at, number in enumerate(numbers):
                fewer = numbers[:at] + numbers[at + 1:]
                self.assertEqual(told(seer, program, fewer, look), ("Lost", number))

    def test_rows_of_a_seer_have_all_of_late(self):
        more = 0
        for chance, program, look, _ in small_chances():
            if told(least, program, look)[0] != "told":
                continue
            numbers = least(program, look)[0] + [(at,) for at in range(12) if chance.random.random() < 0.5]
            beyond = told(seer_rows, program, numbers, look)
            if beyond[0] == "told":
                of_late = rows(program, look)
                for row in of_late:
                    self.assertIn(row, beyond[1])
                more += len(beyond[1]) > len(of_late)
        self.assertGreater(more, 30)


class InputsTest(ReckonerTest):

    def functions(self):
        for seed in SEEDS:
            chance = Chance(seed)
            kind = chance.random.choice("nlll")
            function, given = chance.function(kind), chance.given(kind)
            if is_program(function):
                yield function, given, chance.look(), chance.random.choice((20, 60, 200, 1000))

    def test_told_and_refused_as_by_another_reckoner(self):
        outcomes = set()
        for function, given, look, limit in self.functions():
            for call, other in ((on, other_on), (parts_asked, other_parts)):
                one = told(call, function, given, look, limit=limit)
                self.assertEqual(one, told(other, function, given, look, limit), (function, given, look, limit))
                outcomes.add((call, one[0]))
        self.assertEqual(len(outcomes), 2 * 4)

    def test_just_the_told_parts_were_asked(self):
        many = 0
        for function, given, look, limit in self.functions():
            one = told(on, function, given, look, limit=limit)
            places = told(parts_asked, function, given, look, limit=limit)
            self.assertEqual(one[0], places[0])
            if one[0] != "told":
                self.assertEqual(one, places)
                continue
            places = places[1]
            self.assertEqual(places, sorted(set(places)))
            self.assertEqual(told(on, function, stripped(given, places), look, limit=limit), one)
            self.assertEqual(parts_asked(function, stripped(given, places), look, limit=limit), places)
            for place in places:
                fewer = [other for other in places if other[:len(place)] != place]
                self.assertEqual(told(on, function, stripped(given, fewer), look, limit=limit), ("Missing", place))
                many += 1
        self.assertGreater(many, 500)


class ShopsTest(ReckonerTest):

    def test_told_and_refused_as_by_another_reckoner(self):
        outcomes = set()
        for seed in range(700):
            chance = Chance(seed)
            shop = chance.shop()
            if not all(is_program(program) for program in (shop[0], *[pair[1] for pair in shop[1]])):
                continue
            history, limit = chance.history(shop), chance.random.choice((20, 200, 1000, 10000))
            for order in (chance.order(history, True), chance.order(history, False)):
                one = told(run, shop, history, order=order, limit=limit)
                self.assertEqual(one, told(other_run, shop, history, order, limit), (shop, history, order, limit))
                outcomes.add((run, one[0]))
            numbers = range(1, len(history) + 1)
            self.assertEqual(told(run, shop, history, limit=limit), told(other_run, shop, history, numbers, limit))
            one = told(ledger, shop, history, limit=limit)
            self.assertEqual(one, told(other_ledger, shop, history, limit), (shop, history, limit))
            outcomes.add((ledger, one[0]))
        self.assertEqual(len(outcomes), 2 * 3)


class PaymentsTest(unittest.TestCase):
    """What is owed: each branch pays as if it were alone, and that is enough for all of them together."""

    def histories(self):
        for seed in range(250):
            chance = Chance(seed)
            made = chance.shop()
            if all(is_program(program) for program in (made[0], *[pair[1] for pair in made[1]])):
                history = chance.history(made, most=chance.random.choice((10, 60)))
                if chance.random.random() < 0.3:
                    # One version is taken up again and again.
                    at = chance.random.randrange(len(history) + 1)
                    history = history[:at] + [(deed, min(version, at), n) for deed, version, n in history[at:]]
                tells = told(ledger, made, history, limit=10 ** 6)
                if tells[0] == "told":
                    yield chance, made, history, tells[1]

    def test_in_whatever_order_no_more_is_spent_than_the_prices_so_far(self):
        many = owing = 0
        for chance, made, history, book in self.histories():
            plan = late_plan(book)
            self.assertIs(is_let_by(book, plan), True)
            each, own = prices(book, plan), run(made, history, limit=10 ** 6)
            for is_whole in (True, True, False):
                order = chance.order(history, is_whole)
                done = run(made, history, order=order, limit=10 ** 6)
                self.assertEqual([answer for answer, _ in done], [own[k - 1][0] for k in order])
                self.assertEqual([steps for _, steps in done], spent(book, order))
                left = 0
                for k, (_, steps) in zip(order, done):
                    left += each[k - 1] - steps
                    self.assertGreaterEqual(left, 0)
                many += len(order) > 8
                owing += left > 0
        self.assertGreater(many, 60)
        self.assertGreater(owing, 20)

    def test_along_one_past_the_late_plan_pays_just_what_is_spent(self):
        for _, made, history, book in self.histories():
            each = prices(book, late_plan(book))
            for k in range(1, len(history) + 1, 5):
                way = past(book, k)
                alone = [steps for _, steps in run(made, history, order=way, limit=10 ** 6)]
                self.assertEqual([each[j - 1] for j in way], alone)


class HandedInTest(unittest.TestCase):

    CALLS = (
        (plain, ("program", "look")), (late, ("program", "look")), (rows, ("program", "look")),
        (least, ("program", "look")), (all_seers, ("program", "look")), (seer, ("program", "numbers", "look")),
        (seer_rows, ("program", "numbers", "look")), (on, ("function", "given", "look")),
        (parts_asked, ("function", "given", "look")), (surely, ("term",)), (moved, ("term",)), (free_names, ("term",)),
        (ledger, ("shop", "history")), (run, ("shop", "history", "order")), (past, ("ledger", "k")),
        (asks, ("ledger", "k")), (spent, ("ledger", "order")), (lacking, ("ledger", "plan")),
        (is_let_by, ("ledger", "thing")), (prices, ("ledger", "plan")), (late_plan, ("ledger",)), (shop, ("name",)),
        (written, ("thing",)), (read, ("text",)), (seen_text, ("seen",)))

    def things(self, seed):
        chance = Chance(seed)
        program, function, made = chance.program(3), chance.function("l"), chance.shop()
        history = [(made[1][0][0], 0, 1)] + chance.history(made)
        numbers = [(1,), (2,), (3,), (9, 9), (3,), (2, 1)]
        things = {"program": program, "look": chance.look(), "numbers": numbers, "function": function,
                  "given": chance.given("l"), "term": program, "shop": made, "history": history,
                  "order": chance.order(history, False), "name": chance.random.choice(("queue", "counter")),
                  "text": written(program), "seen": ("c", (None, 3, ("fun",)))}
        book = ([(version, 2, [(1, 1), (1, 2)]) for _, version, _ in history], [((1, 1), 3, [(1, 2)]), ((1, 2), 1, [])])
        return {**things, "ledger": book, "k": len(history), "plan": late_plan(book), "thing": late_plan(book)}

    def test_nothing_is_changed_and_each_told_list_is_the_askers_own(self):
        told_ways = 0
        for seed in range(60):
            things = self.things(seed)
            kept = copy.deepcopy(things)
            for call, names in self.CALLS:
                given = {one: things[one] for one in names}
                first = told(call, **given)
                self.assertEqual(things, kept)
                again = told(call, **given)
                wanted = copy.deepcopy(first)
                self.assertEqual(again, wanted)
                told_ways += first[0] == "told"
                spoil(first)
                self.assertEqual(again, wanted)
                self.assertEqual(told(call, **given), wanted)
                self.assertEqual(things, kept)
        self.assertGreater(told_ways, 300)

    def test_of_the_rule(self):
        for seed in range(20):
            shop_name = ("queue", "counter")[seed % 2]
            history = Chance(seed).own_history(shop_name)
            kept = list(history)
            first, again = rule(shop_name, history), rule(history=history, name=shop_name)
            self.assertEqual((history, first), (kept, again))
            spoil(first)
            self.assertEqual(rule(shop_name, history), again)
            # What is done to a history behind the call changes nothing that was told.
            history.clear()
            self.assertEqual(rule(shop_name, kept), again)


def spoil(thing):
    """Change each list in a thing."""
    if isinstance(thing, (list, tuple)):
        for one in thing:
            spoil(one)
    if isinstance(thing, list):
        thing.append("more")


class NowsTest(unittest.TestCase):

    FUN = ("fun", "x", ("sum", "x", "x"))

    def same(self, build, look=2):
        """A let made now, of what surely is asked: seen, steps, own steps, limit stay."""
        one, other = build("let"), build("now")
        self.assertTrue(is_program(one) and is_program(other))
        self.assertEqual(late(one, look), late(other, look))
        self.assertEqual([row[:2] for row in rows(one, look)], [row[:2] for row in rows(other, look)])
        for limit in range(40):
            self.assertEqual(told(late, one, look, limit=limit), told(late, other, look, limit=limit))

    def test_lets_made_now_change_nothing(self):
        base = [("f", self.FUN), ("n", num(3))]
        call = ("call", "f", "n")
        self.same(lambda sort: lets(base, (sort, "a", call, name("a"))))
        self.same(lambda sort: lets(base, (sort, "a", call, ("sum", "n", "a"))))
        self.same(lambda sort: lets(base, (sort, "a", call, ("let", "b", ("sum", "a", "a"), ("sum", "b", "a")))))
        self.same(lambda sort: lets(base, (sort, "a", call, (sort, "b", ("sum", "a", "a"), name("b")))))
        self.same(lambda sort: lets(base, (sort, "a", ("made", "c", ("n",)), pick("a", ("c", ("p",), name("p"))))))
        self.same(lambda sort: lets(base, (sort, "g", self.FUN, ("call", "g", "n"))))


class WholeNumbersTest(unittest.TestCase):

    def test_truths_are_no_whole_numbers(self):
        for truth in (True, False):
            self.assertIs(is_term(("num", truth)), False)
            self.assertIs(is_program(("fun", "x", ("num", truth))), False)
        for n in (0, 1):
            self.assertIs(is_term(("num", n)), True)

    def test_told_numbers_are_whole_numbers(self):
        for run in (plain, late):
            for worth in run(lasting(50), 1):
                self.assertIs(type(worth), int)
            seen = run(lets([("a", num(1)), ("b", num(0))], ("made", "c", ("a", "b"))), 2)[0]
            self.assertEqual([type(part) for part in seen[1]], [int, int])
