"""Point 17: the queue and the counter, and the rule that is let by at their prices."""

import time
import unittest

from owedonce.plans import is_let_by, late_plan, prices, spent
from owedonce.shops import ledger, run
from owedonce.terms import is_program
from owedonce.twoshops import rule, shop
from tests.helper import Chance, most_price, other_lacking, shop_answers, stood

NAMES = ("queue", "counter")


def chain(deeds, version=0, ahead=0):
    """Deeds one behind another: pairs of a name and n."""
    history = []
    for at, (name, n) in enumerate(deeds, ahead + 1):
        history.append((name, version, n))
        version = at
    return history


def puts(many):
    return [("put", 100 + at) for at in range(many)]


class TwoShopsTest(unittest.TestCase):

    def answers(self, name, history, *wanted):
        self.assertEqual([answer for answer, _ in run(shop(name), history)], list(wanted))
        self.assertEqual(shop_answers(name, history), list(wanted))

    def holds(self, name, history):
        """Answers and rule are as they must be."""
        told_shop = shop(name)
        done = run(told_shop, history)
        self.assertEqual([answer for answer, _ in done], shop_answers(name, history), history)
        book, plan = ledger(told_shop, history), rule(name, history)
        self.assertIs(is_let_by(book, plan), True)
        each = prices(book, plan)
        for k, price in enumerate(each, 1):
            self.assertLessEqual(price, most_price(name, history, k), (history, k))
        self.assertEqual(spent(book, range(1, len(history) + 1)), [steps for _, steps in done])
        return book, plan


class ShopTest(TwoShopsTest):

    def test_they_are_shops(self):
        for name, deeds in (("queue", ["first", "put", "take"]), ("counter", ["digit", "more"])):
            start, pairs = shop(name)
            self.assertIs(type(shop(name)), tuple)
            self.assertIs(type(pairs), tuple)
            self.assertEqual(sorted(pair[0] for pair in pairs), deeds)
            for program in (start, *[pair[1] for pair in pairs]):
                self.assertIs(is_program(program), True)
            self.assertEqual(shop(name), shop(name))

    def test_no_deeds(self):
        for name in NAMES:
            self.assertEqual(run(shop(name), []), [])
            self.assertEqual(rule(name, []), [])


class QueueTest(TwoShopsTest):

    def test_each_deed_by_the_start(self):
        self.answers("queue", [("put", 0, 5), ("take", 0, 5), ("first", 0, 5), ("take", 2, 0), ("first", 3, 0),
                               ("put", 2, 8), ("first", 6, 0)], 1, -1, -1, -1, -1, 1, 8)

    def test_put_take_first(self):
        self.answers("queue", chain([("put", 5), ("put", 6), ("first", 0), ("take", 0), ("first", 0), ("put", 7),
                                     ("take", 0), ("take", 0), ("take", 0), ("first", 0), ("put", 8), ("take", 0)]),
                     1, 2, 5, 5, 6, 2, 6, 7, -1, -1, 1, 8)

    def test_first_changes_nothing(self):
        self.answers("queue", chain([("put", 5), ("first", 0), ("first", 0), ("put", 6), ("first", 1), ("take", 2)]),
                     1, 5, 5, 2, 5, 5)

    def test_n_of_take_and_first_is_nothing(self):
        for n in (-10 ** 18, -1, 0, 1, 10 ** 18):
            self.answers("queue", [("put", 0, 4), ("take", 1, n), ("first", 1, n), ("take", 0, n)], 1, 4, 4, -1)

    def test_elder_versions_and_newest(self):
        history = chain([*puts(5), *[("take", 0)] * 3])
        history += [("take", k, 0) for k in range(9)] + [("first", k, 0) for k in range(9)]
        history += [("put", k, 7) for k in range(9)]
        left = [0, 1, 2, 3, 4, 5, 4, 3, 2]
        first = [-1, 100, 100, 100, 100, 100, 101, 102, 103]
        self.answers("queue", history, 1, 2, 3, 4, 5, 100, 101, 102, *first, *first, *[many + 1 for many in left])

    def test_one_version_again_and_again(self):
        for many in (0, 1, 2, 3, 7, 8, 15, 20):
            history = chain(puts(many)) + [("take", many, 0)] * 20 + [("put", many, 3)] * 15
            self.answers("queue", history, *range(1, many + 1), *[100 if many else -1] * 20, *[many + 1] * 15)
            self.holds("queue", history)

    def test_minus_one_may_be_put(self):
        self.answers("queue", chain([("put", -1), ("first", 0), ("take", 0), ("take", 0), ("put", -1)]),
                     1, -1, -1, -1, 1)

    def test_far_below_and_far_above(self):
        far = [10 ** 18, -10 ** 18, 0, 10 ** 18 - 1, -10 ** 18 + 1] * 6
        history = chain([("put", n) for n in far] + [("take", 0)] * 30)
        self.answers("queue", history, *range(1, 31), *far)
        self.holds("queue", history)

    def test_puts_then_takes(self):
        for many in range(31):
            for deed in ("take", "first"):
                history = chain([*puts(many), *[(deed, 0)] * (60 - many)])
                self.holds("queue", history)
        self.answers("queue", chain([*puts(30), *[("take", 0)] * 30]), *range(1, 31), *range(100, 130))
        self.answers("queue", chain([*puts(59), ("take", 0)]), *range(1, 60), 100)

    def test_trees_of_one_version_that_much_is_owed_to(self):
        for many in range(1, 40):
            for deed in ("take", "put"):
                history = chain([*puts(many), *[("take", 0)] * (many // 3)])
                at = len(history)
                while len(history) < 60:
                    history += [(deed, at, len(history)), ("take", len(history) + 1, 0), ("first", at, 0)]
                self.holds("queue", history[:60])

    def test_a_price_is_small_along_each_past(self):
        """No deed alone ever does what was put off by many."""
        for many in (16, 30, 31, 32, 59):
            history = chain([*puts(many), *[("take", 0)] * (60 - many)])
            for _, steps in run(shop("queue"), history):
                self.assertLessEqual(steps, 20)


class CounterTest(TwoShopsTest):

    def test_each_deed_by_the_start(self):
        self.answers("counter", [("more", 0, 5), ("digit", 0, 0), ("digit", 0, 3), ("digit", 2, 0), ("digit", 1, 0),
                                 ("more", 3, 0), ("digit", 6, 0), ("digit", 6, 1)], 0, 0, 0, 0, 1, 0, 1, 0)

    def test_all_digits_of_all_counts(self):
        for count in range(53):
            history = chain([("more", 0)] * count) + [("digit", count, n) for n in range(7)]
            wanted = [count // 2 ** n % 2 for n in range(7)]
            self.answers("counter", history, *[0] * count, *wanted)
            self.holds("counter", history)

    def test_the_digits_beyond(self):
        for count in (0, 1, 2, 3, 4, 7, 8, 31, 32, 40):
            digits = len(bin(count)) - 2
            history = chain([("more", 0)] * count)
            history += [("digit", count, n) for n in (digits - 1, digits, digits + 1, 30, 59, 60)]
            self.answers("counter", history, *[0] * count, int(count > 0), 0, 0, 0, 0, 0)
            self.holds("counter", history)
        # In a history of its own n is whatever a history lets by.
        far = [("more", 0, 0), ("digit", 1, 10 ** 18), ("digit", 0, 10 ** 18)]
        self.assertEqual([answer for answer, _ in run(shop("counter"), far)], [0, 0, 0])

    def test_digit_changes_nothing(self):
        self.answers("counter", chain([("more", 0), ("digit", 0), ("digit", 1), ("more", 0), ("digit", 0), ("digit", 1),
                                       ("more", 0), ("digit", 0), ("digit", 1)]), 0, 1, 0, 0, 0, 1, 0, 1, 1)

    def test_n_of_more_is_nothing(self):
        for n in (-10 ** 18, -1, 0, 1, 10 ** 18):
            self.answers("counter", [("more", 0, n), ("digit", 1, 0), ("more", 1, n), ("digit", 3, 1)], 0, 1, 0, 1)

    def test_elder_versions_and_newest(self):
        history = chain([("more", 0)] * 20) + [("digit", k, 1) for k in range(20)] + [("more", k, 0) for k in range(20)]
        self.answers("counter", history, *[0] * 20, *[k // 2 % 2 for k in range(20)], *[0] * 20)
        self.holds("counter", history)

    def test_counts_that_carry_far_again_and_again(self):
        for k in range(1, 6):
            count = 2 ** k - 1
            history = chain([("more", 0)] * count)
            while len(history) < 60:
                history += [("more", count, 0), ("digit", len(history) + 1, k), ("digit", len(history) + 1, 0),
                            ("digit", count, k - 1)]
            history = history[:60]
            for (deed, version, n), (answer, _) in list(zip(history, run(shop("counter"), history)))[count:]:
                if deed == "digit":
                    self.assertEqual(answer, int(n == k or version == count))
            self.holds("counter", history)

    def test_chains_of_carries_of_one_count(self):
        for count in range(1, 56):
            history = chain([("more", 0)] * count)
            history += [("more", count, 0), ("more", count, 0), ("digit", count + 1, 5), ("digit", count, 0)]
            self.holds("counter", history)

    def test_the_price_of_a_digit_grows_with_the_less_of_both(self):
        # A count of sixty, one version: n from 0 on, of which none may take more for the digits behind it.
        history = chain([("more", 0)] * 48) + [("digit", 48, n) for n in (0, 1, 2, 3, 4, 5, 6, 7, 30, 60)]
        self.holds("counter", history)
        self.assertEqual([most_price("counter", history, k) for k in range(49, 59)],
                         [20, 28, 36, 44, 52, 60, 68, 68, 68, 68])


class RuleTest(TwoShopsTest):

    def test_whatever_history(self):
        for seed in range(500):
            name = NAMES[seed % 2]
            history = Chance(seed).own_history(name)
            book, plan = self.holds(name, history)
            if seed < 60:
                self.assertEqual(other_lacking(book, plan), [])

    def test_told_again_the_same_and_the_askers_own(self):
        for name in NAMES:
            history = Chance(11).own_history(name)
            kept = list(history)
            first, again = rule(name, history), rule(name, history)
            self.assertEqual(first, again)
            self.assertEqual(history, kept)
            self.assertIs(type(first), list)
            for pays in first:
                self.assertIs(type(pays), list)
                pays.append("more")
            first.clear()
            self.assertEqual(rule(name, history), again)
            history.clear()
            self.assertEqual(rule(name, kept), again)

    def test_it_is_for_the_ledger_of_that_history(self):
        history = chain([*puts(9), *[("take", 0)] * 9])
        book, plan = ledger(shop("queue"), history), rule("queue", history)
        self.assertIs(is_let_by(book, plan), True)
        self.assertIs(is_let_by(book, [[] for _ in plan]), False)
        self.assertIs(is_let_by(book, rule("queue", history[:-1])), False)
        self.assertIs(is_let_by(book, rule("queue", [(deed, 0, n) for deed, _, n in history])), False)

    def test_sixty_deeds_run_in_time(self):
        before = time.process_time()
        for name, deeds in (("queue", [*puts(30), *[("take", 0)] * 30]), ("queue", puts(60)),
                            ("counter", [("more", 0)] * 60), ("counter", [("more", 0)] * 31 + [("digit", 60)] * 29)):
            for history in (chain(deeds), [(deed, 0, n) for deed, n in deeds]):
                self.assertEqual(len(run(shop(name), history)), 60)
                self.assertEqual(len(rule(name, history)), 60)
                # Far within the hundred thousand pieces that a shop may take.
                self.assertEqual(len(run(shop(name), history, limit=20000)), 60)
        self.assertLess(time.process_time() - before, 20)

    def test_somewhat_beyond_is_no_error(self):
        self.holds("queue", chain([*puts(60), *[("take", 0)] * 60]))
        self.holds("queue", chain(puts(120)))
        self.holds("counter", chain([("more", 0)] * 130) + [("digit", 130, n) for n in range(10)])


class OrdersTest(TwoShopsTest):

    def test_the_same_answers_in_whatever_order_of_branches(self):
        """Point 3, for the program's own shops: answers, all steps, and what is spent against the prices."""
        for seed in range(240):
            name, chance = NAMES[seed % 2], Chance(seed)
            history = chance.own_history(name)
            own = run(shop(name), history)
            book = ledger(shop(name), history)
            plans = [prices(book, plan) for plan in (rule(name, history), late_plan(book))]
            for is_whole in (True, True, False):
                order = chance.order(history, is_whole)
                done = run(shop(name), history, order=order)
                self.assertEqual([answer for answer, _ in done], [own[k - 1][0] for k in order])
                self.assertEqual([steps for _, steps in done], spent(book, order))
                if is_whole:
                    self.assertEqual(sum(steps for _, steps in done), sum(steps for _, steps in own))
                for each in plans:
                    so_far = 0
                    for k, (_, steps) in zip(order, done):
                        so_far += each[k - 1] - steps
                        self.assertGreaterEqual(so_far, 0)

    def test_versions_are_as_reckoned(self):
        """What stands in each version, asked to its end."""
        for seed in range(60):
            history = Chance(seed).own_history("queue", most=20)
            versions = stood("queue", history)
            k = len(history)
            asked = chain([("take", 0)] * (len(versions[k]) + 1), k, len(history))
            done = run(shop("queue"), history + asked)[len(history):]
            self.assertEqual([answer for answer, _ in done], [*versions[k], -1])


class ArgumentsTest(unittest.TestCase):

    def test_by_the_names_shown_in_any_order(self):
        self.assertEqual(shop(name="queue"), shop("queue"))
        history = [("put", 0, 1)]
        self.assertEqual(rule(history=history, name="queue"), rule("queue", history))
