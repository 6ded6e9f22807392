"""Points 15 and 16: pasts, what deeds ask and spend, plans, prices, and the late plan."""

import time
import unittest
from itertools import permutations

from owedonce.plans import asks, is_let_by, lacking, late_plan, past, prices, spent
from owedonce.shops import ledger, run
from tests.helper import (
    Chance, other_asks, other_lacking, other_late_plan, other_past, other_prices, other_spent, told)

A, B, C, D = (1, 1), (1, 2), (1, 2, 1), (2, 1)

# A asks itself; B asks a later one, C; C and D ask one another, and C asks A.
RINGS = ([(0, 2, [A]), (1, 3, [B]), (0, 0, []), (2, 10 ** 15, [D]), (3, 1, [C])],
         [(A, 5, [A]), (B, 7, [C]), (C, 0, [A, D]), (D, 10 ** 15, [C])])

# One deed behind another, and one number each; the third asks all.
CHAIN = ([(0, 2, [A]), (1, 2, [B]), (2, 2, [A, B, D])], [(A, 4, []), (B, 6, []), (D, 8, [])])

NONE = ([], [])


def beside(chance, book):
    """An order of all deeds of a ledger, or of some."""
    return chance.order([(None, deed[0], None) for deed in book[0]], chance.random.random() < 0.5)


def ledgers():
    """Ledgers typed by hand, and those that shops tell, with the chance to go on with."""
    for seed in range(600):
        chance = Chance(seed)
        if seed % 3:
            yield chance, chance.ledger()
            continue
        shop = chance.shop()
        tells = told(ledger, shop, chance.history(shop))
        if tells[0] == "told":
            yield chance, tells[1]


class PastTest(unittest.TestCase):

    def test_chain_tree_and_one_version_again(self):
        chain = ([(k, 0, []) for k in range(60)], [])
        wide = ([(0, 0, []) for _ in range(60)], [])
        tree = ([(0, 0, []), (0, 0, []), (1, 0, []), (1, 0, []), (3, 0, []), (2, 0, []), (5, 0, []), (3, 0, [])], [])
        for k in range(1, 61):
            self.assertEqual(past(chain, k), list(range(1, k + 1)))
            self.assertEqual(past(wide, k), [k])
        self.assertEqual([past(tree, k) for k in range(1, 9)],
                         [[1], [2], [1, 3], [1, 4], [1, 3, 5], [2, 6], [1, 3, 5, 7], [1, 3, 8]])


class AsksTest(unittest.TestCase):

    def test_rings_later_ones_and_itself(self):
        self.assertEqual([asks(RINGS, k) for k in range(1, 6)], [[A], [A, B, C, D], [], [A, C, D], [A, C, D]])

    def test_rising_each_once(self):
        rows = [((at,) * 2, 1, [((at + 7) % 50,) * 2, ((at + 31) % 50,) * 2]) for at in range(50)]
        book = ([(0, 2, [(49, 49)]), (0, 2, [(0, 0), (7, 7), (31, 31)])], [
            (number, own, sorted(asked)) for number, own, asked in rows])
        everything = [(at, at) for at in range(50)]
        self.assertEqual(asks(book, 1), everything)
        self.assertEqual(asks(book, 2), everything)

    def test_some_thousand_within_one_another(self):
        rows = [((1, at), 1, [(1, at + 1)]) for at in range(1, 20000)] + [((1, 20000), 1, [])]
        book = ([(0, 2, [(1, 1)]), (0, 2, [(1, 10001)])], rows)
        self.assertEqual(len(asks(book, 1)), 20000)
        self.assertEqual(asks(book, 2), [row[0] for row in rows[10000:]])
        self.assertEqual(spent(book, [2, 1]), [10002, 10002])

    def test_numbers_rise_as_tuples_do(self):
        numbers = [(0, 1), (1, 2), (1, 2, 1), (1, 10), (2, 1), (10, 1)]
        book = ([(0, 2, [(10, 1)])], [(number, 0, numbers) for number in numbers])
        self.assertEqual(asks(book, 1), numbers)


class SpentTest(unittest.TestCase):

    def test_of_rings(self):
        most = 10 ** 15
        self.assertEqual(spent(RINGS, [1, 2, 3, 4, 5]), [7, 3 + 7 + most, 0, most, 1])
        self.assertEqual(spent(RINGS, [3, 5, 1, 2, 4]), [0, 1 + 5 + most, 2, 3 + 7, most])
        self.assertEqual(spent(RINGS, [1, 2, 4]), [7, 10 + most, most])
        self.assertEqual(spent(RINGS, [3, 5]), [0, 6 + most])
        self.assertEqual(spent(RINGS, [3]), [0])
        self.assertEqual(spent(RINGS, []), [])
        self.assertEqual(spent(NONE, []), [])

    def test_what_nobody_of_the_order_asked(self):
        # Another branch's asking is none of the past, but ahead in the order all the same.
        book = ([(0, 2, [A]), (0, 3, [A])], [(A, 4, [])])
        self.assertEqual(spent(book, [1, 2]), [6, 3])
        self.assertEqual(spent(book, [2, 1]), [7, 2])
        self.assertEqual(spent(book, [2]), [7])

    def test_what_run_tells_in_each_order(self):
        many = 0
        for seed in range(300):
            chance = Chance(seed)
            shop = chance.shop()
            history = chance.history(shop)
            tells = told(ledger, shop, history)
            if tells[0] != "told":
                continue
            for order in permutations(range(1, len(history) + 1)) if len(history) < 5 else ():
                if all(history[k - 1][1] in (0, *order[:at]) for at, k in enumerate(order)):
                    steps = [steps for _, steps in run(shop, history, order=list(order))]
                    self.assertEqual(spent(tells[1], list(order)), steps)
                    many += 1
            for _ in range(3):
                order = chance.order(history, False)
                self.assertEqual(spent(tells[1], order), [steps for _, steps in run(shop, history, order=order)])
        self.assertGreater(many, 500)


class LackingTest(unittest.TestCase):

    def test_just_enough_and_one_less(self):
        for paid in range(7):
            plan = [[(A, paid)], [(B, 6)], [(D, 8)]]
            self.assertEqual(lacking(CHAIN, plan), [(1, A, paid, 4), (3, A, paid, 4)] if paid < 4 else [])
            self.assertIs(is_let_by(CHAIN, plan), paid >= 4)

    def test_in_rising_order(self):
        self.assertEqual(lacking(CHAIN, [[], [], []]),
                         [(1, A, 0, 4), (2, B, 0, 6), (3, A, 0, 4), (3, B, 0, 6), (3, D, 0, 8)])
        self.assertEqual(lacking(CHAIN, [[(D, 7), (B, 1)], [], [(A, 9)]]),
                         [(1, A, 0, 4), (2, B, 1, 6), (3, B, 1, 6), (3, D, 7, 8)])

    def test_twice_in_one_list_and_by_several_of_a_past(self):
        twice = [[(A, 3), (A, 1)], [(B, 2), (D, 1), (B, 4)], [(D, 7)]]
        self.assertEqual(lacking(CHAIN, twice), [])
        self.assertEqual(lacking(CHAIN, [[(D, 3), *twice[0]], twice[1], [(D, 4)]]), [])
        self.assertEqual(lacking(CHAIN, [[(D, 3), *twice[0]], twice[1], [(D, 3)]]), [(3, D, 7, 8)])
        self.assertEqual(lacking(CHAIN, [[(A, 2), (A, 1)], [(A, 1), (B, 6)], [(D, 8)]]), [(1, A, 3, 4)])

    def test_by_a_deed_outside_of_the_past(self):
        book = ([(0, 2, [A]), (0, 2, [A]), (1, 2, [B]), (2, 2, [B])], [(A, 4, []), (B, 6, [])])
        self.assertEqual(lacking(book, [[(A, 4), (B, 6)], [], [], []]), [(2, A, 0, 4), (4, B, 0, 6)])
        self.assertEqual(lacking(book, [[(A, 4)], [(A, 4)], [(B, 6)], []]), [(4, B, 0, 6)])
        # Nor does what is paid behind the deed.
        self.assertEqual(lacking(book, [[], [(A, 4), (B, 6)], [(A, 4), (B, 6)], []]), [(1, A, 0, 4)])

    def test_numbers_that_are_not_there(self):
        for number in ((9,), (1,), (0, 1), (1, 1, 1), (2, 2), (-5, 7), (10 ** 30,), (1,) * 100):
            plan = [[(A, 4), (number, 5)], [(number, 6), (B, 6)], [(D, 8), (number, 7)]]
            self.assertEqual(lacking(CHAIN, plan), [])
            self.assertIs(is_let_by(CHAIN, plan), True)
            self.assertEqual(prices(CHAIN, plan), [11, 14, 17])

    def test_what_no_step_is_of_lacks_never(self):
        book = ([(0, 2, [A, B])], [(A, 0, []), (B, 0, [A])])
        self.assertEqual(lacking(book, [[]]), [])
        self.assertIs(is_let_by(book, [[]]), True)

    def test_what_is_asked_by_the_asked(self):
        book = ([(0, 2, [B]), (1, 2, [C])], [(A, 3, [A]), (B, 0, [A]), (C, 1, [B])])
        self.assertEqual(lacking(book, [[], []]), [(1, A, 0, 3), (2, A, 0, 3), (2, C, 0, 1)])
        self.assertEqual(lacking(book, [[(A, 3)], [(C, 1)]]), [])

    def test_of_no_deeds(self):
        self.assertEqual(lacking(NONE, []), [])
        self.assertIs(is_let_by(NONE, []), True)
        self.assertIs(is_let_by(NONE, [[]]), False)
        self.assertIs(is_let_by(NONE, ()), False)
        self.assertEqual((prices(NONE, []), late_plan(NONE)), ([], []))
        self.assertIs(is_let_by(([], [(A, 5, [])]), []), True)


class IsLetByTest(unittest.TestCase):

    ONE = ([(0, 2, [A])], [(A, 4, [])])

    def is_one(self, *pairs):
        return is_let_by(self.ONE, [[(A, 4), *pairs]])

    def test_plans_of_too_few_and_of_too_many_lists(self):
        plan = late_plan(CHAIN)
        self.assertIs(is_let_by(CHAIN, plan), True)
        for other in (plan[:-1], plan[1:], [*plan, []], [[], *plan], [], [[]], plan * 2):
            self.assertIs(is_let_by(CHAIN, other), False)

    def test_amounts(self):
        for amount in (0, 1, 10 ** 18 - 1, 10 ** 18):
            self.assertIs(self.is_one((B, amount)), True)
        for amount in (-1, 10 ** 18 + 1, -10 ** 18, 10 ** 40, True, False, None, "1", (), (1,), [], [1]):
            self.assertIs(self.is_one((B, amount)), False, amount)
            self.assertIs(is_let_by(self.ONE, [[(B, amount), (A, 4)]]), False)
        # A truth is no amount, even where it would be enough.
        self.assertIs(is_let_by(([(0, 2, [A])], [(A, 1, [])]), [[(A, True)]]), False)
        self.assertIs(is_let_by(([(0, 2, [A])], [(A, 1, [])]), [[(A, 1)]]), True)

    def test_numbers(self):
        for number in ((1,), (0,), (-1,), (10 ** 30, 2), (1,) * 100, tuple(range(100))):
            self.assertIs(self.is_one((number, 1)), True)
        for number in ((), (1,) * 101, (True,), (1, True), (1, False, 2), [1], [], 1, None, True, "1", "", (None,),
                       ("1",), ((1,),), ([1],), (1, (2,)), (1, 2, []), (1,) * 99 + (True,), (1,) * 99 + (None,)):
            self.assertIs(self.is_one((number, 1)), False, number)
        # A truth is no number, even where it is the same to Python.
        self.assertIs(is_let_by(self.ONE, [[((True, 1), 4)]]), False)
        self.assertIs(is_let_by(self.ONE, [[((1, True), 4)]]), False)

    def test_pairs(self):
        for pair in ([B, 1], (B,), (B, 1, 1), (), [], None, True, 1, "ab", B, (1, B), ((B, 1),)):
            self.assertIs(self.is_one(pair), False, pair)

    def test_lists(self):
        self.assertIs(self.is_one(), True)
        for pays in (((A, 4),), (), {}, None, True, 1, "", "ab", (A, 4), {"a": 1}):
            self.assertIs(is_let_by(self.ONE, [pays]), False, pays)
        for thing in (([(A, 4)],), (), None, True, False, 0, 1, "", "ab", [(A, 4)], (A, 4), [[[(A, 4)]]], {}):
            self.assertIs(is_let_by(self.ONE, thing), False, thing)

    def test_a_hundred_thousand_pairs_and_one_more(self):
        for many, wanted in ((99999, True), (100000, False)):
            for pair in ((B, 0), ((7,), 10 ** 18), (A, 1), ((1,) * 100, 1)):
                self.assertIs(self.is_one(*[pair] * many), wanted)
        self.assertEqual(lacking(self.ONE, [[(A, 0)] * 99999 + [(A, 3)]]), [(1, A, 3, 4)])
        many = [[(A, 1)] * 2, *[[(B, 1)] * 100000] * 9]
        book = ([(0, 2, [])] + [(k, 2, [B]) for k in range(1, 10)], [(A, 4, []), (B, 900000, [])])
        self.assertEqual([row[:3] for row in lacking(book, many)], [(k, B, (k - 1) * 100000) for k in range(2, 10)])

    def test_anything_is_told_soon(self):
        tuples, lists, mixed, deep, far = (), [], (), (), []
        for _ in range(300):
            tuples, lists, mixed, deep, far = (tuples, tuples), [lists, lists], [(mixed, mixed)], (deep,), [far]
        things = [tuples, lists, mixed, deep, far, (1,) * 300000, [1] * 300000, [[]] * 300000, "a" * 300000, 10 ** 900,
                  [tuples] * 100000, [lists] * 100000, None, True, False, "", (), [], 0, -1]
        before = time.process_time()
        for one in things:
            for more in (one, [one], [one, one], [[one]], [[one, one]], [[(one, 1)]], [[(A, one)]], [[((one,), 1)]],
                         [[((1, one), 1)]], [[(A, 4), (one, one)]], [[(A, 4)], one], (one, one), [[[one]]]):
                for book in (self.ONE, CHAIN, RINGS):
                    self.assertIs(is_let_by(book, more), False)
        self.assertLess(time.process_time() - before, 20)

    def test_a_list_of_empty_ones_is_a_plan(self):
        free = ([(0, 2, []), (1, 2, [])], [])
        self.assertIs(is_let_by(free, [[], []]), True)
        self.assertIs(is_let_by(free, [[], ()]), False)
        self.assertIs(is_let_by(self.ONE, [[]]), False)

    def test_truths_are_told(self):
        for thing in ([], [[]], [[(A, 4)]], [[(A, 3)]], 5):
            self.assertIn(is_let_by(self.ONE, thing), (True, False))
            self.assertIs(type(is_let_by(self.ONE, thing)), bool)


class LatePlanTest(unittest.TestCase):

    def test_of_chains_and_rings(self):
        self.assertEqual(late_plan(CHAIN), [[(A, 4)], [(B, 6)], [(D, 8)]])
        most = 10 ** 15
        self.assertEqual(late_plan(RINGS), [[(A, 5)], [(B, 7), (D, most)], [], [], [(A, 5), (D, most)]])
        self.assertEqual(prices(RINGS, late_plan(RINGS)), [7, 10 + most, 0, most, 6 + most])

    def test_each_branch_pays_for_itself(self):
        book = ([(0, 2, [A]), (0, 3, [A]), (1, 2, [A, B]), (1, 2, [B]), (2, 0, [A, B])], [(A, 4, []), (B, 6, [])])
        self.assertEqual(late_plan(book), [[(A, 4)], [(A, 4)], [(B, 6)], [(B, 6)], [(B, 6)]])
        self.assertEqual(prices(book, late_plan(book)), [6, 7, 8, 8, 6])

    def test_in_rising_order_and_nothing_where_nothing_lacks(self):
        book = ([(0, 1, [B, D]), (1, 1, [A, B, C, D])], [(A, 1, []), (B, 0, []), (C, 3, [D]), (D, 2, [B])])
        self.assertEqual(late_plan(book), [[(D, 2)], [(A, 1), (C, 3)]])

    def test_it_is_let_by_and_with_one_less_it_is_not(self):
        many = 0
        for _, book in ledgers():
            plan = late_plan(book)
            self.assertEqual(plan, other_late_plan(book))
            self.assertIs(is_let_by(book, plan), True)
            for k, pays in enumerate(plan, 1):
                for at, (number, amount) in enumerate(pays):
                    self.assertGreater(amount, 0)
                    less = [list(one) for one in plan]
                    less[k - 1][at] = (number, amount - 1)
                    self.assertIs(is_let_by(book, less), False)
                    self.assertIn((k, number, amount - 1, amount), lacking(book, less))
                    many += 1
        self.assertGreater(many, 500)

    def test_along_each_past_it_pays_no_more_than_what_that_asks(self):
        for _, book in ledgers():
            own = {number: steps for number, steps, _ in book[1]}
            plan = late_plan(book)
            for k in range(1, len(book[0]) + 1):
                asked = {number for j in past(book, k) for number in asks(book, j)}
                paid = sum(amount for j in past(book, k) for _, amount in plan[j - 1])
                self.assertEqual(paid, sum(own[number] for number in asked))


class PricesTest(unittest.TestCase):

    def test_own_steps_and_what_it_pays(self):
        plan = [[(A, 3), (A, 1)], [(B, 0)], [((9, 9), 10 ** 18)]]
        self.assertEqual(prices(CHAIN, plan), [6, 2, 2 + 10 ** 18])
        self.assertEqual(prices(CHAIN, [[], [], []]), [2, 2, 2])
        self.assertEqual(prices(([(0, 10 ** 15, [])], []), [[(A, 10 ** 18), (A, 10 ** 18)]]), [10 ** 15 + 2 * 10 ** 18])


class ChanceTest(unittest.TestCase):

    def test_told_as_by_another_reckoner(self):
        lets_by, fails = 0, 0
        for chance, book in ledgers():
            for k in range(1, len(book[0]) + 1):
                self.assertEqual(past(book, k), other_past(book, k))
                self.assertEqual(asks(book, k), other_asks(book, k))
            for _ in range(3):
                order, plan = beside(chance, book), chance.plan(book)
                self.assertEqual(spent(book, order), other_spent(book, order))
                self.assertEqual(lacking(book, plan), other_lacking(book, plan))
                self.assertEqual(prices(book, plan), other_prices(book, plan))
                self.assertIs(is_let_by(book, plan), other_lacking(book, plan) == [])
                lets_by += is_let_by(book, plan)
                fails += not is_let_by(book, plan)
        self.assertGreater(min(lets_by, fails), 200)

    def test_no_more_is_spent_than_the_prices_so_far(self):
        """Point 3: whatever plan that is let by, in each order."""
        many = 0
        for chance, book in ledgers():
            for plan in (late_plan(book), chance.plan(book), chance.plan(book)):
                if not is_let_by(book, plan):
                    continue
                each = prices(book, plan)
                order = beside(chance, book)
                done = spent(book, order)
                for at in range(len(order) + 1):
                    self.assertLessEqual(sum(done[:at]), sum(each[k - 1] for k in order[:at]))
                many += len(order) > 2
        self.assertGreater(many, 200)


class FarTest(unittest.TestCase):

    def test_sixty_deeds_with_long_rows(self):
        numbers = [(1 + at % 7, 1 + at // 7) for at in range(3000)]
        numbers = sorted(numbers)
        rows = [(number, at % 5, numbers[at // 2:at // 2 + 20]) for at, number in enumerate(numbers)]
        for versions in (range(60), [0] * 60, [k // 2 for k in range(60)]):
            book = ([(version, 2, numbers[k::60] + []) for k, version in enumerate(versions)], rows)
            before = time.process_time()
            plan = late_plan(book)
            self.assertIs(is_let_by(book, plan), True)
            self.assertEqual(sum(prices(book, plan)) - 120, sum(amount for pays in plan for _, amount in pays))
            k, (number, amount) = next((k, pays[-1]) for k, pays in reversed(list(enumerate(plan))) if pays)
            plan[k][-1] = (number, amount - 1)
            self.assertIs(is_let_by(book, plan), False)
            self.assertEqual(spent(book, range(1, 61)), other_spent(book, range(1, 61)))
            self.assertLess(time.process_time() - before, 20)

    def test_somewhat_beyond_is_no_error(self):
        book = ([(k, 10 ** 20, [A]) for k in range(90)], [(A, 10 ** 17, [])])
        self.assertEqual(past(book, 90), list(range(1, 91)))
        self.assertEqual(asks(book, 90), [A])
        self.assertEqual(late_plan(book), [[(A, 10 ** 17)]] + [[]] * 89)
        self.assertIs(is_let_by(book, late_plan(book)), True)


class ArgumentsTest(unittest.TestCase):

    def test_by_the_names_shown_in_any_order(self):
        plan = late_plan(ledger=CHAIN)
        self.assertEqual(past(k=3, ledger=CHAIN), [1, 2, 3])
        self.assertEqual(asks(k=1, ledger=CHAIN), [A])
        self.assertEqual(spent(order=[1], ledger=CHAIN), [6])
        self.assertEqual(lacking(plan=plan, ledger=CHAIN), [])
        self.assertIs(is_let_by(thing=plan, ledger=CHAIN), True)
        self.assertEqual(prices(plan=plan, ledger=CHAIN), [6, 8, 10])
