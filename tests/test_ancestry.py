"""Point [7]: ancestry, found from orders."""

import unittest

from insertionorders.ancestry import ancestors, depths, first_between, is_above, meeting, total
from insertionorders.errors import InvalidOrder, UnknownKey
from insertionorders.trees import below, build, depth, path
from tests.support import all_orders, linked, linked_path, long_orders, not_orders, raised, sample_orders, unknown_keys

OF_TWO_KEYS = (is_above, meeting)


class FirstBetween(unittest.TestCase):
    def test_bounds_near_keys(self):
        for order in [order for size in range(5) for order in all_orders(size)] + long_orders()[::6]:
            bounds = sorted({key + by for key in order for by in (-1, 0, 1)} | {-10 ** 30, 0, 10 ** 30})
            for low in bounds:
                for high in bounds[::1 if len(order) < 9 else 5]:
                    found = [key for key in order if low <= key <= high]
                    self.assertEqual(first_between(order, low, high), found[0] if found else None)

    def test_by_hand(self):
        self.assertEqual(first_between([5, 3, 9], 4, 10), 5)
        self.assertEqual(first_between([5, 3, 9], 3, 3), 3)
        self.assertEqual(first_between([5, 3, 9], 6, 9), 9)
        self.assertIsNone(first_between([5, 3, 9], 6, 8))
        self.assertIsNone(first_between([5, 3, 9], 9, 3))
        self.assertIsNone(first_between([5], 6, 5))
        self.assertIsNone(first_between([], -1, 1))
        self.assertEqual(first_between([0, 1], 0, 0), 0)


class AgainstTheTree(unittest.TestCase):
    def test_each_key(self):
        for order in sample_orders():
            tree = build(order)
            before = list(order)
            self.assertEqual(depths(order), [depth(tree, key) for key in order])
            self.assertEqual(total(order), sum(depth(tree, key) for key in order))
            for key in order:
                self.assertEqual(ancestors(order, key), path(tree, key)[:-1])
            self.assertEqual(order, before)

    def test_each_two_keys(self):
        for order in sample_orders():
            nodes = linked(order)
            paths = {key: linked_path(nodes[key]) for key in order}
            for first in order:
                for second in order:
                    common = [key for key in paths[first] if key in paths[second]]
                    self.assertIs(is_above(order, first, second), first != second and first in paths[second])
                    self.assertEqual(meeting(order, first, second), common[-1])

    def test_below(self):
        for order in long_orders()[::8]:
            tree = build(order)
            for upper in order:
                lower = [key for key in sorted(order) if is_above(order, upper, key)]
                self.assertEqual(lower, [key for key in below(tree, upper) if key != upper])

    def test_equal_keys(self):
        for order in long_orders():
            for key in order:
                self.assertIs(is_above(order, key, key), False)
                self.assertEqual(meeting(order, key, key), key)

    def test_empty_and_single(self):
        self.assertEqual(depths([]), [])
        self.assertEqual(total([]), 0)
        self.assertEqual(depths([7]), [0])
        self.assertEqual(total([7]), 0)
        self.assertEqual(ancestors([7], 7), [])

    def test_steepest(self):
        self.assertEqual(depths(list(range(40))), list(range(40)))
        self.assertEqual(total(list(range(40))), 780)
        self.assertEqual(total([2, 1, 3]), 2)

    def test_total_counts_comparisons(self):
        for order in long_orders():
            tree = dict(build(order))
            compared = 0
            for key in order:
                at = tree[key]
                while at is not None:
                    compared += 1
                    at = tree[at]
            self.assertEqual(total(order), compared)

    def test_kinds(self):
        order = [4, 2, 6, 1]
        self.assertIs(ancestors(order, 1).__class__, list)
        self.assertIs(depths(order).__class__, list)
        self.assertIs(total(order).__class__, int)
        self.assertIs(is_above(order, 4, 1), True)
        self.assertIs(is_above(order, 1, 4), False)


class Errors(unittest.TestCase):
    def test_orders_come_first(self):
        for wrong, position in not_orders():
            calls = [(first_between, wrong, 1, 2), (depths, wrong), (total, wrong), (ancestors, wrong, None)]
            calls += [(function, wrong, [], 77) for function in OF_TWO_KEYS]
            for function, *arguments in calls:
                with self.subTest(function=function.__name__, kind=wrong.__class__):
                    error = raised(function, *arguments)
                    self.assertIs(error.__class__, InvalidOrder)
                    self.assertEqual(error.position, position)

    def refused(self, key, function, *arguments):
        error = raised(function, *arguments)
        self.assertIs(error.__class__, UnknownKey)
        self.assertIs(error.key, key)

    def test_unknown_keys(self):
        for order in ([], [1], [2, 1, 3], list(range(40, 0, -1))):
            for key in unknown_keys():
                with self.subTest(length=len(order), kind=key.__class__):
                    self.refused(key, ancestors, order, key)
                    for function in OF_TWO_KEYS:
                        self.refused(key, function, order, key, key)
                        if order:
                            self.refused(key, function, order, key, 1)
                            self.refused(key, function, order, 1, key)

    def test_first_before_second(self):
        wrong = unknown_keys()
        for one, other in zip(wrong, wrong[1:] + wrong[:1]):
            for function in OF_TWO_KEYS:
                with self.subTest(kinds=(one.__class__, other.__class__)):
                    self.refused(one, function, [2, 1, 3], one, other)

    def test_bool_is_not_a_key(self):
        for function in OF_TWO_KEYS:
            self.assertIs(raised(function, [0, 1], True, 0).key, True)
            self.assertIs(raised(function, [0, 1], 1, False).key, False)
        self.assertIs(raised(ancestors, [0, 1], True).key, True)
