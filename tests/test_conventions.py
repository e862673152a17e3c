"""Points [2] and [3] (j), and the errors of trees and of their keys, for the functions of stage 1."""

import types
import unittest

from insertionorders.errors import InvalidOrder, InvalidTree, UnknownKey
from insertionorders.orders import check_order, is_key
from insertionorders.trees import below, build, children, depth, height, is_tree, levels, mirrored, path
from tests.support import LIMIT, Awkward, long_orders, negated, not_trees, other_objects, raised, shifted

OF_A_TREE = (height, mirrored)
OF_A_KEY = (path, depth, children, below)


class ArgumentNames(unittest.TestCase):
    def test_each_function(self):
        tree = build(order=[2, 1, 3])
        self.assertEqual(tree, ((1, 2), (2, None), (3, 2)))
        self.assertIs(is_key(candidate=1), True)
        self.assertIsNone(check_order(candidate=[1]))
        self.assertIs(is_tree(candidate=tree), True)
        self.assertEqual(path(tree=tree, key=3), [2, 3])
        self.assertEqual(path(key=3, tree=tree), [2, 3])
        self.assertEqual(depth(tree=tree, key=3), 1)
        self.assertEqual(height(tree=tree), 2)
        self.assertEqual(children(tree=tree, key=2), (1, 3))
        self.assertEqual(below(tree=tree, key=2), [1, 2, 3])
        self.assertEqual(list(levels(tree=tree)), [[2], [1, 3]])
        self.assertEqual(mirrored(tree=tree), ((-3, -2), (-2, None), (-1, -2)))


class TreeErrors(unittest.TestCase):
    def test_not_a_tree(self):
        for wrong in not_trees():
            for function in OF_A_TREE:
                with self.subTest(function=function.__name__, kind=wrong.__class__):
                    self.assertIs(raised(function, wrong).__class__, InvalidTree)

    def test_tree_before_key(self):
        for wrong in not_trees():
            for function in OF_A_KEY:
                for key in (1, None, 5, [], True):
                    with self.subTest(function=function.__name__, kind=wrong.__class__):
                        self.assertIs(raised(function, wrong, key).__class__, InvalidTree)

    def test_order_for_a_tree(self):
        for function in OF_A_TREE:
            self.assertIs(raised(function, [2, 1, 3]).__class__, InvalidTree)

    def test_unknown_key(self):
        for tree in ((), build([1]), build([2, 1, 3]), build([0, 1]), build(list(range(40)))):
            for key in [None, [], [1], (), 77, -1, LIMIT] + other_objects():
                for function in OF_A_KEY:
                    with self.subTest(function=function.__name__, kind=key.__class__):
                        error = raised(function, tree, key)
                        self.assertIs(error.__class__, UnknownKey)
                        self.assertIs(error.key, key)

    def test_build(self):
        self.assertEqual(raised(build, [2, 1, 2]).position, 2)
        self.assertIsNone(raised(build, (2, 1)).position)
        self.assertIsInstance(raised(build, ((1, None),)), InvalidOrder)


class Generators(unittest.TestCase):
    def test_levels_is_a_generator(self):
        self.assertIsInstance(levels(()), types.GeneratorType)

    def test_errors_come_with_the_first_element(self):
        for wrong in not_trees():
            rows = levels(wrong)
            with self.subTest(kind=wrong.__class__):
                self.assertIs(raised(next, rows).__class__, InvalidTree)
        rows = levels([])
        self.assertIs(raised(list, rows).__class__, InvalidTree)

    def test_yielded_lists_belong_to_the_caller(self):
        for order in long_orders():
            tree = build(order)
            expected = list(levels(tree))
            seen = []
            for row in levels(tree):
                seen.append(list(row))
                row.clear()
                row.append(None)
            self.assertEqual(seen, expected)
            self.assertEqual(list(levels(tree)), expected)

    def test_yielded_lists_are_different_objects(self):
        tree = build([2, 1, 3, 4])
        rows = list(levels(tree)) + list(levels(tree))
        self.assertEqual(len({id(row) for row in rows}), 6)

    def test_two_at_once(self):
        first, second = levels(build([2, 1, 3])), levels(build([1, 2, 3]))
        self.assertEqual([next(first), next(second), next(first), next(second), next(second)],
                         [[2], [1], [1, 3], [2], [3]])


class NewObjects(unittest.TestCase):
    def test_returned_lists(self):
        tree = build([2, 1, 3])
        for function in (path, below):
            first = function(tree, 2)
            expected = list(first)
            first.append(None)
            self.assertEqual(function(tree, 2), expected)
            self.assertIsNot(function(tree, 2), function(tree, 2))

    def test_a_changed_order_does_not_change_its_tree(self):
        order = [2, 1, 3]
        tree = build(order)
        order.clear()
        self.assertEqual(tree, ((1, 2), (2, None), (3, 2)))

    def test_equal_calls(self):
        for order in long_orders():
            self.assertEqual(build(order), build(list(order)))

    def test_failed_calls_change_nothing(self):
        order = [1, 2, 1]
        raised(check_order, order)
        raised(build, order)
        self.assertEqual(order, [1, 2, 1])
        wrong = ([2, None], [1, 2])
        raised(height, wrong)
        raised(path, wrong, 1)
        self.assertEqual(wrong, ([2, None], [1, 2]))
        key = [1]
        self.assertIs(raised(path, build([1]), key).key, key)
        self.assertEqual(key, [1])

    def test_awkward_objects_are_not_touched(self):
        awkward = Awkward()
        self.assertIs(is_key(awkward), False)
        self.assertIs(is_tree(awkward), False)
        self.assertIsNone(raised(check_order, awkward).position)
        self.assertIs(raised(below, build([1]), awkward).key, awkward)


class Shifted(unittest.TestCase):
    def test_keys_are_shifted(self):
        for order in long_orders()[:-1]:
            for by in (-1000, 1, 10 ** 17):
                tree, moved = build(order), build(shifted(order, by))
                self.assertEqual(moved, shifted(tree, by))
                self.assertEqual(height(moved), height(tree))
                self.assertEqual(list(levels(moved)), shifted(list(levels(tree)), by))
                self.assertEqual(mirrored(moved), shifted(mirrored(tree), -by))
                for key in order[::7]:
                    self.assertEqual(path(moved, key + by), shifted(path(tree, key), by))
                    self.assertEqual(depth(moved, key + by), depth(tree, key))
                    self.assertEqual(children(moved, key + by), shifted(children(tree, key), by))
                    self.assertEqual(below(moved, key + by), shifted(below(tree, key), by))

    def test_positions_of_errors_stay(self):
        for order in ([1, 2, 1], [5, None], [3, 4, 3, 4]):
            moved = [None if key is None else key + 10 for key in order]
            self.assertEqual(raised(check_order, moved).position, raised(check_order, order).position)


class Negated(unittest.TestCase):
    def test_left_and_right_are_exchanged(self):
        for order in long_orders():
            tree, other = build(order), build(negated(order))
            self.assertEqual(other, negated(tree)[::-1])
            self.assertEqual(height(other), height(tree))
            self.assertEqual(list(levels(other)), [row[::-1] for row in negated(list(levels(tree)))])
            for key in order[::7]:
                self.assertEqual(path(other, -key), negated(path(tree, key)))
                self.assertEqual(depth(other, -key), depth(tree, key))
                self.assertEqual(children(other, -key), negated(children(tree, key))[::-1])
                self.assertEqual(below(other, -key), negated(below(tree, key))[::-1])

    def test_checks_stay(self):
        for candidate in (((1, 2), (2, None)), ((1, None), (2, None)), ((1, 2), (2, 1)), ((1, 3), (2, 3), (3, None))):
            self.assertIs(is_tree(negated(candidate)[::-1]), is_tree(candidate))
        for key in (0, LIMIT, LIMIT + 1):
            self.assertIs(is_key(-key), is_key(key))
