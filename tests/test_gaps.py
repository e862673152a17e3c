"""Points [11] and [12]: present keys."""

import itertools
import unittest

from insertionorders.errors import DifferentKeys, DuplicateKey, InvalidKeys, InvalidOrder, InvalidTree, TooLarge
from insertionorders.gaps import act_alike, grow, parts, separating_gap
from insertionorders.trees import build
from tests.support import LIMIT, linked_pairs, long_orders, long_pairs, not_keys, not_orders, not_trees, raised
from tests.support import sample_orders, shuffled

OF_TWO_ORDERS = (act_alike, separating_gap)


def orders_of_keys(keys):
    return [list(order) for order in itertools.permutations(keys)]


def trees_of_keys(keys):
    return sorted({build(order) for order in orders_of_keys(keys)}, key=str)


def keys_in_gap(present, gap, keys):
    """Return those keys that have as many present keys below them as the gap's number."""
    return [key for key in keys if sum(one < key for one in present) == gap]


class Grow(unittest.TestCase):
    def test_continues_the_order_of_the_tree(self):
        for order in sample_orders():
            for at in {0, 1, len(order) // 2, len(order)}:
                first, rest = order[:at], order[at:]
                before = list(rest)
                tree = build(first)
                self.assertEqual(grow(tree, rest), linked_pairs(order))
                self.assertEqual(rest, before)
                self.assertEqual(tree, build(first))

    def test_whatever_order_built_the_tree(self):
        for order in orders_of_keys([2, 4, 6, 8]):
            for rest in ([1, 9, 5, 3, 7], [7, 5], [3], []):
                self.assertEqual(grow(build(order), rest), linked_pairs(order + rest))

    def test_forty_keys_together(self):
        for size in (0, 1, 20, 39, 40):
            keys = shuffled(range(40), size)
            tree = grow(build(keys[:size]), keys[size:])
            self.assertEqual(len(tree), 40)
            self.assertEqual(tree, linked_pairs(keys))

    def test_too_large(self):
        for size, more in ((40, 1), (1, 40), (40, 40), (21, 20), (5, 39)):
            error = raised(grow, build(list(range(size))), list(range(100, 100 + more)))
            self.assertIs(error.__class__, TooLarge)
            self.assertEqual(error.amount, size + more)

    def test_duplicate_key(self):
        tree = build([20, 10, 30])
        for order, key in (([10], 10), ([5, 30, 10], 30), ([10, 30], 10), ([1, 2, 3, 20], 20)):
            error = raised(grow, tree, order)
            self.assertIs(error.__class__, DuplicateKey)
            self.assertEqual(error.key, key)

    def test_duplicate_before_too_large(self):
        error = raised(grow, build(list(range(40))), [50, 39, 0])
        self.assertIs(error.__class__, DuplicateKey)
        self.assertEqual(error.key, 39)

    def test_tree_before_order(self):
        for wrong in not_trees():
            for order in ([], [1], None, [1, 1]):
                with self.subTest(kind=wrong.__class__):
                    self.assertIs(raised(grow, wrong, order).__class__, InvalidTree)

    def test_order_before_duplicate(self):
        for wrong, position in not_orders():
            for tree in ((), build([1, 2]), build(list(range(40)))):
                error = raised(grow, tree, wrong)
                with self.subTest(kind=wrong.__class__):
                    self.assertIs(error.__class__, InvalidOrder)
                    self.assertEqual(error.position, position)


class Parts(unittest.TestCase):
    def test_each_gap(self):
        for order in sample_orders():
            for step in (1, 2, 5):
                present = sorted(order)[step - 1::step]
                rest = [key for key in order if key not in present]
                before = list(present), list(rest)
                found = parts(present, rest)
                self.assertEqual(found, [keys_in_gap(present, gap, rest) for gap in range(len(present) + 1)])
                self.assertEqual(sorted(sum(found, [])), sorted(rest))
                self.assertEqual((present, rest), before)

    def test_by_hand(self):
        self.assertEqual(parts([], []), [[]])
        self.assertEqual(parts([], [3, 1]), [[3, 1]])
        self.assertEqual(parts([5], []), [[], []])
        self.assertEqual(parts([5, 6], [9, 4, 8]), [[4], [], [9, 8]])
        self.assertEqual(parts([-LIMIT, LIMIT], [0]), [[], [0], []])
        self.assertEqual(parts([0], [-LIMIT, LIMIT]), [[-LIMIT], [LIMIT]])

    def test_more_than_forty_together(self):
        present, order = list(range(0, 80, 2)), shuffled(range(-1, 79, 2), 4)
        self.assertEqual(parts(present, order), [[key] for key in range(-1, 79, 2)] + [[]])

    def test_lists_are_new(self):
        order = [7, 1]
        for present in ([], [5], [5, 6]):
            found = parts(present, order)
            self.assertEqual(len({id(part) for part in found}), len(present) + 1)
            for part in found:
                self.assertIsNot(part, order)
                part.append(None)
            self.assertEqual(order, [7, 1])
            self.assertNotEqual(parts(present, order), found)

    def test_duplicate_key(self):
        for present, order, key in (([1, 2], [3, 2, 1], 2), ([1, 2], [1], 1), ([0, 5], [4, 5, 0], 5)):
            error = raised(parts, present, order)
            self.assertIs(error.__class__, DuplicateKey)
            self.assertEqual(error.key, key)

    def test_keys_before_order(self):
        for wrong, position in not_keys():
            for order in ([], [1], None, [1, 1]):
                error = raised(parts, wrong, order)
                with self.subTest(kind=wrong.__class__):
                    self.assertIs(error.__class__, InvalidKeys)
                    self.assertEqual(error.position, position)

    def test_order_before_duplicate(self):
        for wrong, position in not_orders():
            error = raised(parts, [1, 2], wrong)
            with self.subTest(kind=wrong.__class__):
                self.assertIs(error.__class__, InvalidOrder)
                self.assertEqual(error.position, position)


class ActAlike(unittest.TestCase):
    def check_pair(self, present, first, second):
        gaps = [gap for gap in range(len(present) + 1)
                if linked_pairs(keys_in_gap(present, gap, first)) != linked_pairs(keys_in_gap(present, gap, second))]
        found = separating_gap(present, first, second)
        self.assertEqual(found, gaps[0] if gaps else None)
        self.assertIs(act_alike(present, first, second), not gaps)
        self.assertIs(found.__class__, int if gaps else None.__class__)

    def test_against_grow_on_all_trees(self):
        for keys in ([1], [1, 3], [1, 3, 5], [1, 2, 5, 7]):
            for size in range(4):
                for chosen in itertools.combinations([0, 4, 6, 8], size):
                    present = list(chosen)
                    trees = trees_of_keys(present)
                    for first, second in itertools.combinations_with_replacement(orders_of_keys(keys), 2):
                        answers = {grow(tree, first) == grow(tree, second) for tree in trees}
                        self.assertEqual(answers, {act_alike(present, first, second)})
                        self.check_pair(present, first, second)

    def test_many_keys(self):
        for first, second in long_pairs()[:-4]:
            keys = sorted(first)
            for step in (1, 2, 9, 50):
                present = [key + 1 for key in keys[::step] if key + 1 not in keys]
                self.check_pair(present, first, second)
                self.check_pair(present, second, first)

    def test_many_keys_against_grow(self):
        for order in long_orders()[:-1]:
            fresh, present = order[::2], sorted(order[1::2])
            for second in (shuffled(fresh, 1), fresh[1:] + fresh[:1], fresh[::-1], list(fresh)):
                for tree in (build(order[1::2]), build(present)):
                    alike = grow(tree, fresh) == grow(tree, second)
                    self.assertIs(act_alike(present, fresh, second), alike)

    def test_more_than_forty_together(self):
        present, order = list(range(0, 80, 2)), list(range(-1, 79, 2))
        self.assertIs(act_alike(present, order, order[::-1]), True)
        self.assertIsNone(separating_gap(present[:-1], order, order[::-1]))
        self.assertEqual(separating_gap(present[:-2], order, order[::-1]), 38)

    def test_arguments_stay(self):
        present, first, second = [5], [1, 2, 7], [2, 1, 7]
        separating_gap(present, first, second)
        act_alike(present, first, second)
        self.assertEqual((present, first, second), ([5], [1, 2, 7], [2, 1, 7]))


class ActAlikeErrors(unittest.TestCase):
    def refused(self, kind, field, value, *arguments):
        for function in OF_TWO_ORDERS:
            error = raised(function, *arguments)
            with self.subTest(function=function.__name__, kinds=[one.__class__ for one in arguments]):
                self.assertIs(error.__class__, kind)
                self.assertEqual(getattr(error, field), value)

    def test_keys_first(self):
        for wrong, position in not_keys():
            self.refused(InvalidKeys, "position", position, wrong, None, [1, 1])
            self.refused(InvalidKeys, "position", position, wrong, [1], [1])

    def test_then_orders(self):
        for wrong, position in not_orders():
            self.refused(InvalidOrder, "position", position, [1], wrong, [1])
            self.refused(InvalidOrder, "position", position, [1], [1], wrong)
        self.refused(InvalidOrder, "position", 2, [1], [1, 2, 1], [3, 3])
        self.refused(InvalidOrder, "position", 1, [1], [3, 3], None)

    def test_then_different_keys(self):
        self.refused(DifferentKeys, "key", 3, [1, 5], [5, 1], [1, 5, 3])
        self.refused(DifferentKeys, "key", 1, [1], [1], [])

    def test_then_duplicate_keys(self):
        self.refused(DuplicateKey, "key", 5, [1, 5], [3, 5, 1], [1, 3, 5])
        self.refused(DuplicateKey, "key", 1, [1, 5], [3, 1, 5], [5, 1, 3])
