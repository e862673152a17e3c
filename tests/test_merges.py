"""Points [23] and [24]: merges of orders."""

import itertools
import math
import unittest

from insertionorders.errors import DifferentKeys, DuplicateKey, InvalidOrder, InvalidTree, TooLarge
from insertionorders.merges import count_merges, is_merge_cycle, merge_for, merged_trees, merges_building
from insertionorders.trees import build
from tests.support import LIMIT, Awkward, linked_pairs, long_orders, not_orders, not_trees, other_objects, raised
from tests.support import shuffled

OF_A_TREE = (merges_building, merge_for)


def all_merges(first, second):
    """Return the ascending list of all merges of two orders, found by the places of the first one's keys."""
    size = len(first) + len(second)
    found = []
    for places in itertools.combinations(range(size), len(first)):
        left, right = iter(first), iter(second)
        found.append([next(left) if at in places else next(right) for at in range(size)])
    return sorted(found)


def is_merge(order, first, second):
    chosen = [key for key in order if key in first], [key for key in order if key in second]
    return chosen == (list(first), list(second)) and len(order) == len(first) + len(second)


def pairs_of_orders(most):
    """Return pairs of orders without common keys, with so many keys together at most."""
    found = []
    for size in range(most + 1):
        for left in range(size + 1):
            for seed in range(4):
                keys = shuffled(range(1, size + 1), seed + size)
                found.append((keys[:left], keys[left:]))
    return found


def must_precede(first, second, tree, earlier, later):
    """Return whether a key is the parent of another one, or comes before it in one of the orders."""
    places = [order.index(earlier) < order.index(later) for order in (first, second)
              if earlier in order and later in order]
    return dict(tree)[later] == earlier or any(places)


def is_cycle(first, second, tree, keys):
    if len(keys) < 2 or len(set(keys)) < len(keys):
        return False
    return all(must_precede(first, second, tree, *pair) for pair in zip(keys, keys[1:] + keys[:1]))


def trees_for(first, second):
    """Return trees of the keys of two orders: some that merges build, and some others."""
    keys = first + second
    orders = [keys, second + first, sorted(keys), sorted(keys)[::-1]] + [shuffled(keys, seed) for seed in range(4)]
    return sorted({linked_pairs(order) for order in orders}, key=str)


class CountMerges(unittest.TestCase):
    def test_two_orders(self):
        for first, second in pairs_of_orders(7):
            self.assertEqual(count_merges(first, second), len(all_merges(first, second)))

    def test_no_to_six_orders(self):
        self.assertEqual(count_merges(), 1)
        self.assertEqual(count_merges([]), 1)
        self.assertEqual(count_merges([3, 1, 2]), 1)
        self.assertEqual(count_merges([], [], [], [], []), 1)
        for sizes in ((1, 1, 1), (2, 0, 3), (4, 3, 2, 1), (1, 2, 3, 4, 5), (6, 5, 4, 3, 2, 1), (1,) * 6):
            keys = shuffled(range(sum(sizes)), 3)
            orders = [[keys.pop() for repeated in range(size)] for size in sizes]
            expected = math.factorial(sum(sizes))
            for size in sizes:
                expected //= math.factorial(size)
            before = [list(order) for order in orders]
            self.assertEqual(count_merges(*orders), expected)
            self.assertEqual(orders, before)

    def test_three_orders_by_all_orders(self):
        orders = [4, 1], [5], [2, 3]
        merges = [one for one in itertools.permutations(range(1, 6)) if all(
            [key for key in one if key in order] == order for order in orders)]
        self.assertEqual(count_merges(*orders), len(merges))

    def test_up_to_120_keys(self):
        for parts in (2, 3):
            orders = [list(range(40 * at, 40 * at + 40)) for at in range(parts)]
            self.assertEqual(count_merges(*orders), math.factorial(40 * parts) // math.factorial(40) ** parts)
        orders = [shuffled(range(20 * at, 20 * at + 20), at) for at in range(6)]
        self.assertEqual(count_merges(*orders), math.factorial(120) // math.factorial(20) ** 6)

    def refused(self, kind, field, value, *orders):
        error = raised(count_merges, *orders)
        with self.subTest(kinds=[one.__class__ for one in orders]):
            self.assertIs(error.__class__, kind)
            self.assertEqual(getattr(error, field), value)

    def test_invalid_order(self):
        for wrong, position in not_orders():
            self.refused(InvalidOrder, "position", position, wrong)
            self.refused(InvalidOrder, "position", position, [1], wrong, [2, 2])
            self.refused(InvalidOrder, "position", position, [1], [1], [1], wrong)
            self.refused(InvalidOrder, "position", position, wrong, None)
        self.refused(InvalidOrder, "position", 1, [1, 1], [2, 3, 2])
        self.refused(InvalidOrder, "position", 2, [1], [2, 3, 2], [1, 1])

    def test_duplicate_key(self):
        self.refused(DuplicateKey, "key", 3, [1, 3], [3, 1])
        self.refused(DuplicateKey, "key", 1, [1, 3], [2, 1, 3])
        self.refused(DuplicateKey, "key", 9, [1, 3], [2, 9], [5, 9, 3], [1])
        self.refused(DuplicateKey, "key", 7, [7], [], [], [], [6, 7], [6])
        self.refused(DuplicateKey, "key", 5, [5], [5], [6])


class Building(unittest.TestCase):
    def check_tree(self, first, second, tree, merges):
        building = [merge for merge in merges if linked_pairs(merge) == tree]
        before = list(first), list(second)
        self.assertEqual(merges_building(first, second, tree), len(building))
        result = merge_for(first, second, tree)
        self.assertIs(result.__class__, tuple)
        word, keys = result
        self.assertIs(keys.__class__, list)
        if building:
            self.assertEqual(word, "order")
            self.assertIn(keys, building)
            self.assertIs(is_merge_cycle(first, second, tree, keys), False)
        else:
            self.assertEqual(word, "cycle")
            self.assertTrue(is_cycle(first, second, tree, keys))
            self.assertIs(is_merge_cycle(first, second, tree, keys), True)
        self.assertEqual((first, second), before)
        return word

    def test_against_all_merges(self):
        words = set()
        for first, second in pairs_of_orders(8):
            merges = all_merges(first, second)
            trees = trees_for(first, second) + [linked_pairs(merge) for merge in merges[::5]]
            for tree in trees:
                words.add(self.check_tree(first, second, tree, merges))
        self.assertEqual(words, {"order", "cycle"})

    def test_all_trees_of_few_keys(self):
        for size in range(5):
            orders = [list(order) for order in itertools.permutations(range(size))]
            trees = sorted({linked_pairs(order) for order in orders}, key=str)
            for order in orders:
                for at in range(size + 1):
                    merges = all_merges(order[:at], order[at:])
                    counts = [merges_building(order[:at], order[at:], tree) for tree in trees]
                    self.assertEqual(sum(counts), len(merges))
                    for tree in trees:
                        self.check_tree(order[:at], order[at:], tree, merges)

    def test_many_keys(self):
        for seed, order in enumerate(long_orders()):
            for step in (2, 3, 40):
                second = order[::step]
                first = [key for key in order if key not in second]
                tree = build(order)
                self.assertGreaterEqual(merges_building(first, second, tree), 1)
                word, merge = merge_for(first, second, tree)
                self.assertEqual(word, "order")
                self.assertTrue(is_merge(merge, first, second))
                self.assertEqual(linked_pairs(merge), tree)
                other = build(shuffled(order, seed + 7))
                word, keys = merge_for(first, second, other)
                self.assertEqual(merges_building(first, second, other) > 0, word == "order")
                if word == "cycle":
                    self.assertTrue(is_cycle(first, second, other, keys))
                    self.assertIs(is_merge_cycle(first, second, other, keys), True)

    def test_all_merges_of_many_keys(self):
        # Each key of one order is below the root and above all keys of the other one: each merge builds its own tree.
        first, second = list(range(1, 21)), list(range(40, 20, -1))
        self.assertEqual(merges_building(first, second, build(first + second)), 1)
        # Beside a common root, keys of different sides are merged in all ways.
        first, second = list(range(20, 0, -1)), list(range(21, 41))
        self.assertEqual(merges_building(first, second, build(first + second)), math.comb(39, 20))
        self.assertEqual(merges_building(first, second, build(second + first)), math.comb(39, 19))

    def test_no_keys(self):
        self.assertEqual(merges_building([], [], ()), 1)
        self.assertEqual(merge_for([], [], ()), ("order", []))
        self.assertEqual(merged_trees([], []), [((), 1)])
        self.assertIs(is_merge_cycle([], [], (), []), False)

    def test_lists_are_new(self):
        first, second = [1, 2], []
        merge_for(first, second, build([1, 2]))[1].clear()
        merge_for(first, second, build([2, 1]))[1].clear()
        self.assertEqual(merge_for(first, second, build([1, 2])), ("order", [1, 2]))
        self.assertEqual(len(merge_for(first, second, build([2, 1]))[1]), 2)
        self.assertEqual((first, second), ([1, 2], []))


class IsMergeCycle(unittest.TestCase):
    def test_every_list_of_keys(self):
        accepted = 0
        for first, second in pairs_of_orders(4):
            keys = first + second
            for tree in trees_for(first, second):
                for length in range(len(keys) + 2):
                    for some in itertools.product(keys, repeat=length):
                        expected = is_cycle(first, second, tree, list(some))
                        self.assertIs(is_merge_cycle(first, second, tree, list(some)), expected)
                        if expected:
                            self.assertEqual(merges_building(first, second, tree), 0)
                            accepted += 1
        self.assertGreater(accepted, 100)

    def test_changed_cycles(self):
        found = 0
        for seed, order in enumerate(long_orders()):
            first, second = order[::2], order[1::2]
            tree = build(shuffled(order, seed + 7))
            word, keys = merge_for(first, second, tree)
            if word == "cycle":
                found += 1
                turned = keys[1:] + keys[:1]
                self.assertIs(is_merge_cycle(first, second, tree, turned), True)
                changed = [keys[1:], keys[::-1], keys + keys[:1], keys + keys]
                changed += [keys[:at] + keys[at + 1:] for at in range(len(keys))]
                for candidate in changed:
                    expected = is_cycle(first, second, tree, candidate)
                    self.assertIs(is_merge_cycle(first, second, tree, candidate), expected)
                wrong = [tuple(keys), set(keys), keys + [LIMIT - 77]]
                wrong += [keys[:at] + [one] + keys[at + 1:] for at in range(len(keys)) for one in (None, True, 0.5)]
                for candidate in wrong:
                    self.assertIs(is_merge_cycle(first, second, tree, candidate), False)
        self.assertGreater(found, 20)

    def test_longer_ways_in_an_order(self):
        # A key comes before another one in an order also if others stand between them.
        tree = build([4, 3, 2, 1])
        self.assertIs(is_merge_cycle([1, 2, 3, 4], [], tree, [1, 4, 3, 2]), True)
        self.assertIs(is_merge_cycle([1, 2, 3, 4], [], tree, [1, 2]), True)
        self.assertIs(is_merge_cycle([1, 2, 3, 4], [], tree, [1, 3, 2]), True)
        self.assertIs(is_merge_cycle([1, 2, 3, 4], [], tree, [1, 3]), False)
        self.assertIs(is_merge_cycle([1, 2], [3, 4], tree, [1, 4, 3, 2]), False)
        self.assertIs(is_merge_cycle([1, 2], [3, 4], tree, [3, 4]), True)

    def test_true_in_place_of_1(self):
        tree = build([1, 0])
        self.assertIs(is_merge_cycle([0, 1], [], tree, [0, 1]), True)
        self.assertIs(is_merge_cycle([0, 1], [], tree, [1, 0]), True)
        for candidate in ([0, True], [False, 1], [True, 0], [0.0, 1], [0, 1.0], (0, 1), [[0], 1], [0, 1, 1], [0], [1]):
            self.assertIs(is_merge_cycle([0, 1], [], tree, candidate), False)

    def test_objects_of_other_kinds(self):
        first, second, tree = [1, 2], [3], build([2, 1, 3])
        self.assertIs(is_merge_cycle(first, second, tree, [1, 2]), True)
        for wrong in [None, [], (), (1, 2), {1: 2, 2: 1}, "12"] + other_objects():
            with self.subTest(kind=wrong.__class__):
                self.assertIs(is_merge_cycle(first, second, tree, wrong), False)
                self.assertIs(is_merge_cycle(first, second, tree, [wrong]), False)
                self.assertIs(is_merge_cycle(first, second, tree, [1, wrong]), False)
                self.assertIs(is_merge_cycle(first, second, tree, [wrong, 2]), False)
                self.assertIs(is_merge_cycle(first, second, tree, [1, 2, wrong]), False)

    def test_long_candidates(self):
        first, second, tree = [1, 2], [3], build([2, 1, 3])
        for candidate in ([1, 2] * 50000, [Awkward()] * 100000, list(range(100000))):
            self.assertIs(is_merge_cycle(first, second, tree, candidate), False)

    def test_candidate_stays(self):
        candidate = [1, 2, None]
        is_merge_cycle([1, 2], [3], build([2, 1, 3]), candidate)
        self.assertEqual(candidate, [1, 2, None])


class MergedTrees(unittest.TestCase):
    def test_against_all_merges(self):
        for first, second in pairs_of_orders(10)[::3] + pairs_of_orders(5):
            before = list(first), list(second)
            expected = {}
            for merge in all_merges(first, second):
                expected.setdefault(linked_pairs(merge), []).append(merge)
            found = merged_trees(first, second)
            self.assertIs(found.__class__, list)
            self.assertEqual(found, [(tree, len(merges)) for tree, merges in expected.items()])
            for tree, count in found:
                self.assertEqual(merges_building(first, second, tree), count)
            self.assertEqual((first, second), before)

    def test_list_is_new(self):
        merged_trees([1], [2]).clear()
        self.assertEqual(len(merged_trees([1], [2])), 2)

    def test_errors(self):
        for wrong, position in not_orders():
            for first, second in ((wrong, [1]), ([1], wrong), (wrong, None)):
                error = raised(merged_trees, first, second)
                with self.subTest(kind=wrong.__class__):
                    self.assertIs(error.__class__, InvalidOrder)
                    self.assertEqual(error.position, position)
        error = raised(merged_trees, list(range(11)), [20, 5, 3])
        self.assertEqual((error.__class__, error.key), (DuplicateKey, 5))
        for left, right in ((11, 0), (0, 11), (6, 5), (40, 1), (40, 40)):
            error = raised(merged_trees, list(range(left)), list(range(100, 100 + right)))
            self.assertEqual((error.__class__, error.amount), (TooLarge, left + right))


class Errors(unittest.TestCase):
    def refused(self, kind, field, value, first, second, tree):
        errors = [raised(function, first, second, tree) for function in OF_A_TREE]
        for error in errors + [raised(is_merge_cycle, first, second, tree, one) for one in (None, [1, 2])]:
            with self.subTest(kinds=[one.__class__ for one in (first, second, tree)]):
                self.assertIs(error.__class__, kind)
                if field is not None:
                    self.assertEqual(getattr(error, field), value)

    def test_orders_first(self):
        for wrong, position in not_orders():
            self.refused(InvalidOrder, "position", position, wrong, [1], None)
            self.refused(InvalidOrder, "position", position, [1], wrong, None)
            self.refused(InvalidOrder, "position", position, wrong, [1, 1], build([1]))

    def test_then_the_tree(self):
        for wrong in not_trees():
            self.refused(InvalidTree, None, None, [1], [1], wrong)
            self.refused(InvalidTree, None, None, list(range(40)), [50], wrong)

    def test_then_duplicate_keys(self):
        self.refused(DuplicateKey, "key", 3, [1, 3, 2], [5, 3, 1], build([9]))
        self.refused(DuplicateKey, "key", 39, list(range(40)), [39, 1], ())

    def test_then_too_many(self):
        for left, right in ((40, 1), (1, 40), (21, 20), (40, 40)):
            first, second = list(range(left)), list(range(100, 100 + right))
            self.refused(TooLarge, "amount", left + right, first, second, build([1]))
        self.assertEqual(merges_building(list(range(40)), [], build(list(range(40)))), 1)

    def test_then_different_keys(self):
        for first, second, keys, key in (
                ([1], [2], [1], 2), ([1], [], [1, 2], 2), ([], [], [5], 5), ([5], [], [], 5), ([], [5], [], 5),
                ([4, 1], [3], [4, 2, 1], 2), ([4, 1], [2], [4, 3, 1], 2), ([9], [8], [7, 8], 7), ([1], [2], [3, 4], 1)):
            self.refused(DifferentKeys, "key", key, first, second, build(keys))
