"""Points [19] and [20]: numbers of orders by height, total and depth."""

import itertools
import math
import unittest

from insertionorders.errors import Contradiction, InvalidFacts, InvalidKeys, InvalidNumber, InvalidSize, TooLarge
from insertionorders.errors import UnknownKey
from insertionorders.profiles import depth_counts, flattest_order, greatest_total, height_counts, kept_depths
from insertionorders.profiles import kept_heights, kept_totals, least_total, steepest_order, total_counts
from tests.support import LIMIT, all_orders, keeping, linked, linked_path, not_keys, other_objects, raised, shuffled
from tests.support import some_facts, unknown_keys

# Each row is a function of a size and the sizes that it allows.
OF_A_SIZE = (
    (height_counts, 0, 30), (total_counts, 0, 16), (depth_counts, 1, 30), (least_total, 0, 40), (greatest_total, 0, 40),
)


def depths_in(order):
    """Return the dict of the depths of all keys in the linked tree of an order."""
    nodes = linked(order)
    return {key: len(linked_path(nodes[key])) - 1 for key in order}


def counted(numbers, most):
    """Return the list of how often each number from 0 to most occurs."""
    found = [0] * (most + 1)
    for number in numbers:
        found[number] += 1
    return found


def height_of(depths):
    return max(depths.values(), default=-1) + 1


def pairs_of(size):
    return size * (size - 1) // 2


class Counts(unittest.TestCase):
    def test_against_all_orders(self):
        for size in range(8):
            rows = [depths_in(order) for order in all_orders(size)]
            self.assertEqual(height_counts(size), counted([height_of(row) for row in rows], size))
            self.assertEqual(total_counts(size), counted([sum(row.values()) for row in rows], pairs_of(size)))
            for rank in range(size):
                self.assertEqual(depth_counts(size, rank), counted([row[rank + 1] for row in rows], size - 1))

    def test_sums_and_lengths(self):
        for size in range(31):
            self.assertEqual(sum(height_counts(size)), math.factorial(size))
            self.assertEqual(len(height_counts(size)), size + 1)
            for rank in range(size):
                self.assertEqual(sum(depth_counts(size, rank)), math.factorial(size))
                self.assertEqual(len(depth_counts(size, rank)), size)
        for size in range(17):
            self.assertEqual(sum(total_counts(size)), math.factorial(size))
            self.assertEqual(len(total_counts(size)), pairs_of(size) + 1)

    def test_heights_at_the_ends(self):
        for size in range(1, 31):
            counts = height_counts(size)
            self.assertEqual(counts[size], 2 ** (size - 1))
            self.assertEqual([height for height, count in enumerate(counts) if count][0], size.bit_length())
        # There is one tree of three or four full rows; its number of orders is that of point [10].
        self.assertEqual(height_counts(7)[3], 80)
        self.assertEqual(height_counts(15)[4], math.factorial(15) // (15 * 7 ** 2 * 3 ** 4))

    def test_totals_at_the_ends(self):
        for size in range(2, 17):
            counts = total_counts(size)
            self.assertEqual(counts[-1], 2 ** (size - 1))
            self.assertEqual([total for total, count in enumerate(counts) if count][0], least_total(size))
        # The mean total of all orders, times their number, for 2 (n + 1) H(n) - 4 n.
        for size in range(17):
            whole = math.factorial(size)
            harmonic = sum(whole // number for number in range(1, size + 1))
            expected = 2 * (size + 1) * harmonic - 4 * size * whole
            self.assertEqual(sum(total * count for total, count in enumerate(total_counts(size))), expected)

    def test_depths_at_the_ends(self):
        for size in range(1, 31):
            for rank in (0, size // 2, size - 1):
                counts = depth_counts(size, rank)
                self.assertEqual(counts[0], math.factorial(size - 1))
                self.assertEqual(counts, depth_counts(size, size - 1 - rank))
                whole = math.factorial(size)
                beside = list(range(2, rank + 2)) + list(range(2, size - rank + 1))
                expected = sum(whole // number for number in beside)
                self.assertEqual(sum(depth * count for depth, count in enumerate(counts)), expected)

    def test_lists_are_new(self):
        for function, arguments in ((height_counts, (4,)), (total_counts, (4,)), (depth_counts, (4, 1))):
            for size in (0, 1):
                if function is not depth_counts:
                    function(size).append(None)
                    self.assertEqual(function(size), [1] if size == 0 or function is total_counts else [0, 1])
            found = function(*arguments)
            expected = list(found)
            found.clear()
            self.assertEqual(function(*arguments), expected)


class SizeErrors(unittest.TestCase):
    def refused(self, kind, value, function, *arguments):
        error = raised(function, *arguments)
        with self.subTest(function=function.__name__, kind=value.__class__):
            self.assertIs(error.__class__, kind)
            self.assertIs(error.value, value)

    def test_invalid_size(self):
        for function, least, most in OF_A_SIZE:
            more = (0,) if function is depth_counts else ()
            for size in (least, most):
                self.assertIsNone(raised(function, size, *more))
            for size in [least - 1, most + 1, 1000, LIMIT, None, [], [1], ()] + other_objects():
                self.refused(InvalidSize, size, function, size, *more)

    def test_size_before_rank(self):
        for size in (0, 31, None, True):
            for rank in (0, -1, None, [], True):
                self.refused(InvalidSize, size, depth_counts, size, rank)

    def test_invalid_number(self):
        for size in (1, 2, 30):
            for rank in [-1, size, size + 1, LIMIT, None, [], [1], ()] + other_objects():
                self.refused(InvalidNumber, rank, depth_counts, size, rank)


class Extremes(unittest.TestCase):
    def test_against_all_orders(self):
        for size in range(8):
            totals = [sum(depths_in(order).values()) for order in all_orders(size)]
            self.assertEqual(least_total(size), min(totals))
            self.assertEqual(greatest_total(size), max(totals))

    def test_least_by_the_best_root(self):
        least = [0]
        for size in range(1, 41):
            least.append(size - 1 + min(least[left] + least[size - 1 - left] for left in range(size)))
        self.assertEqual([least_total(size) for size in range(41)], least)

    def test_greatest(self):
        self.assertEqual([greatest_total(size) for size in range(41)], [pairs_of(size) for size in range(41)])

    def test_orders_reach_them(self):
        for size in range(41):
            for keys in (list(range(size)), sorted(shuffled(range(-500, 500, 7), size)[:size])):
                before = list(keys)
                flat, steep = flattest_order(keys), steepest_order(keys)
                for order, total in ((flat, least_total(size)), (steep, greatest_total(size))):
                    self.assertIs(order.__class__, list)
                    self.assertEqual(sorted(order), keys)
                    self.assertEqual(sum(depths_in(order).values()), total)
                    self.assertIsNot(order, keys)
                    order.append(None)
                self.assertEqual(keys, before)
                self.assertIsNot(flattest_order(keys), flattest_order(keys))

    def test_keys_at_the_limits(self):
        keys = [-LIMIT, -1, 0, 1, LIMIT]
        self.assertEqual(sum(depths_in(flattest_order(keys)).values()), 6)
        self.assertEqual(sum(depths_in(steepest_order(keys)).values()), 10)

    def test_invalid_keys(self):
        for wrong, position in not_keys():
            for function in (flattest_order, steepest_order):
                error = raised(function, wrong)
                with self.subTest(function=function.__name__, kind=wrong.__class__):
                    self.assertIs(error.__class__, InvalidKeys)
                    self.assertEqual(error.position, position)


def samples():
    """Return pairs of up to six keys and facts that can be kept."""
    found = [([], []), ([4], [])]
    for size in range(2, 7):
        keys = list(range(-4, size * 5 - 4, 5))
        found += [(keys, some_facts(keys, seed, amount)) for seed in range(5) for amount in (0, 1, 2, 3, 5, 8, 15)]
    return found


class Kept(unittest.TestCase):
    def test_against_all_orders(self):
        for keys, facts in samples():
            before = list(keys), list(facts)
            size = len(keys)
            rows = [depths_in(order) for order in keeping(keys, facts)]
            self.assertEqual(kept_heights(keys, facts), counted([height_of(row) for row in rows], size))
            self.assertEqual(kept_totals(keys, facts), counted([sum(row.values()) for row in rows], pairs_of(size)))
            for key in keys:
                self.assertEqual(kept_depths(keys, facts, key), counted([row[key] for row in rows], size - 1))
            self.assertEqual((keys, facts), before)

    def test_without_facts(self):
        for size in range(11):
            keys = list(range(0, size * 3, 3))
            self.assertEqual(kept_totals(keys, []), total_counts(size))
            for rank, key in enumerate(keys):
                self.assertEqual(kept_depths(keys, [], key), depth_counts(size, rank))
            if size <= 7:
                self.assertEqual(kept_heights(keys, []), height_counts(size))

    def test_one_order(self):
        for size in range(1, 11):
            order = shuffled(range(size), size + 3)
            facts = list(zip(order, order[1:])) * 20
            depths = depths_in(order)
            self.assertEqual(kept_totals(sorted(order), facts), counted([sum(depths.values())], pairs_of(size)))
            for key in order:
                self.assertEqual(kept_depths(sorted(order), facts, key), counted([depths[key]], size - 1))
            if size <= 7:
                self.assertEqual(kept_heights(sorted(order), facts), counted([height_of(depths)], size))

    def test_seven_keys(self):
        keys = list(range(7))
        for amount in (2, 6):
            facts = some_facts(keys, amount, amount)
            rows = [depths_in(order) for order in keeping(keys, facts)]
            self.assertEqual(kept_heights(keys, facts), counted([height_of(row) for row in rows], 7))
            self.assertEqual(kept_totals(keys, facts), counted([sum(row.values()) for row in rows], 21))
            self.assertEqual(kept_depths(keys, facts, 3), counted([row[3] for row in rows], 6))

    def test_ten_keys_with_a_first_one(self):
        keys = list(range(10))
        facts = [(4, key) for key in keys if key != 4]
        self.assertEqual(kept_depths(keys, facts, 4), [math.factorial(9)] + [0] * 9)
        expected = [0] * 46
        for left, one in enumerate(total_counts(4)):
            for right, other in enumerate(total_counts(5)):
                expected[9 + left + right] += math.comb(9, 4) * one * other
        self.assertEqual(kept_totals(keys, facts), expected)

    def test_lists_are_new(self):
        for function, more in ((kept_totals, ()), (kept_depths, (1,)), (kept_heights, ())):
            expected = list(function([1, 2], [], *more))
            function([1, 2], [], *more).clear()
            self.assertEqual(function([1, 2], [], *more), expected)


class KeptErrors(unittest.TestCase):
    def errors(self, keys, facts, key=None):
        calls = ((kept_totals, ()), (kept_depths, (key,)), (kept_heights, ()))
        return [raised(function, keys, facts, *more) for function, more in calls]

    def test_facts_before_size(self):
        for size in (3, 8, 11):
            keys = list(range(size))
            for error in self.errors(keys[::-1], []):
                self.assertEqual((error.__class__, error.position), (InvalidKeys, 1))
            for error in self.errors(keys, [(0, 1), (1, size)]):
                self.assertEqual((error.__class__, error.position), (InvalidFacts, 1))
            for error in self.errors(keys, [(0, 1), (1, 0)]):
                self.assertEqual((error.__class__, len(error.chain)), (Contradiction, 3))

    def test_too_large(self):
        for size in (11, 12, 40):
            for error in self.errors(list(range(size)), [(0, 1)]):
                self.assertEqual((error.__class__, error.amount), (TooLarge, size))
        for size in (8, 9, 10):
            totals, depths, heights = self.errors(list(range(size)), [(0, 1)], 0)
            self.assertEqual((totals, depths), (None, None))
            self.assertEqual((heights.__class__, heights.amount), (TooLarge, size))

    def test_unknown_key(self):
        for key in unknown_keys():
            for keys in ([], [1], list(range(1, 11))):
                error = raised(kept_depths, keys, [], key)
                with self.subTest(kind=key.__class__):
                    self.assertIs(error.__class__, UnknownKey)
                    self.assertIs(error.key, key)


class Together(unittest.TestCase):
    def test_kept_and_contrary_facts(self):
        # Each order keeps a fact or the contrary one, but not both.
        keys = list(range(8))
        for earlier, later in itertools.combinations(keys, 2):
            one, other = kept_totals(keys, [(earlier, later)]), kept_totals(keys, [(later, earlier)])
            self.assertEqual([sum(pair) for pair in zip(one, other)], total_counts(8))
