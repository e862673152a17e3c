"""Points [14] and [15]: rotations, intervals and routes."""

import itertools
import unittest

from insertionorders.errors import DifferentKeys, InvalidTree, NoParent, TooLarge, UnknownKey
from insertionorders.exchanges import effect, exchanged
from insertionorders.rotations import fewest_rotations, intervals, is_route, missing_intervals, rotated
from insertionorders.rotations import rotation_order, route
from insertionorders.trees import build
from tests.support import Awkward, all_orders, all_trees, key_of, linked, linked_below, linked_pairs, long_orders
from tests.support import long_pairs, not_trees, other_objects, raised, sample_orders, shuffled, unknown_keys

OF_TWO_TREES = (missing_intervals, route, fewest_rotations)


def linked_rotated(order, key):
    """Return the pairs of a linked tree after the pointers around one edge are changed."""
    nodes = linked(order)
    node = nodes[key]
    parent = node.parent
    above = parent.parent
    if parent.left is node:
        parent.left, node.right = node.right, parent
        moved = parent.left
    else:
        parent.right, node.left = node.left, parent
        moved = parent.right
    if moved is not None:
        moved.parent = parent
    node.parent, parent.parent = above, node
    return tuple((one, key_of(nodes[one].parent)) for one in sorted(nodes))


def an_order(tree):
    """Return some order of a tree: its keys by their depths."""
    parents = dict(tree)

    def depth(key):
        return 0 if parents[key] is None else 1 + depth(parents[key])

    return sorted(parents, key=depth)


def linked_after(tree, keys):
    """Return the tree after rotations of a linked tree at the keys, None if one of them has no parent in its turn."""
    for key in keys:
        if dict(tree)[key] is None:
            return None
        tree = linked_rotated(an_order(tree), key)
    return tree


def steps_from(tree):
    """Return a dict of the fewest rotations from a tree to each tree, found by a search through all trees."""
    steps, row = {tree: 0}, [tree]
    while row:
        further = []
        for one in row:
            for key, parent in one:
                if parent is not None:
                    other = linked_rotated(an_order(one), key)
                    if other not in steps:
                        steps[other] = steps[one] + 1
                        further.append(other)
        row = further
    return steps


def pairs_of_trees():
    """Return pairs of trees of the same keys: all of up to four keys, and some of many."""
    pairs = [pair for size in range(5) for pair in itertools.product(all_trees(size), repeat=2)]
    return pairs + [(build(first), build(second)) for first, second in long_pairs()[::2]]


class Rotated(unittest.TestCase):
    def test_against_a_linked_tree(self):
        for order in sample_orders():
            tree = build(order)
            for key in order[1:]:
                self.assertEqual(rotated(tree, key), linked_rotated(order, key))

    def test_twice_at_one_edge(self):
        for order in sample_orders():
            tree = build(order)
            for key, parent in tree:
                if parent is not None:
                    self.assertEqual(rotated(rotated(tree, key), parent), tree)

    def test_by_hand(self):
        tree = build([4, 2, 1, 3, 5])
        self.assertEqual(rotated(tree, 2), ((1, 2), (2, None), (3, 4), (4, 2), (5, 4)))
        self.assertEqual(rotated(tree, 5), ((1, 2), (2, 4), (3, 2), (4, 5), (5, None)))
        self.assertEqual(rotated(tree, 3), ((1, 2), (2, 3), (3, 4), (4, None), (5, 4)))


class RotationOrder(unittest.TestCase):
    def test_builds_both_trees(self):
        for order in sample_orders():
            tree = build(order)
            parents = dict(tree)
            for key in order[1:]:
                result = rotation_order(tree, key)
                self.assertIs(result.__class__, tuple)
                found, position = result
                self.assertIs(found.__class__, list)
                self.assertEqual(linked_pairs(found), tree)
                self.assertEqual(found[position:position + 2], [parents[key], key])
                self.assertEqual(build(exchanged(found, position)), rotated(tree, key))

    def test_lists_are_new(self):
        tree = build([2, 1, 3])
        rotation_order(tree, 1)[0].clear()
        self.assertEqual(sorted(rotation_order(tree, 1)[0]), [1, 2, 3])


class Exchanges(unittest.TestCase):
    def test_an_exchange_is_no_change_or_one_rotation(self):
        for order in all_orders(5) + [shuffled(range(size), size) for size in range(6, 31)]:
            tree = build(order)
            for position in range(len(order) - 1):
                key = effect(order, position)
                after = tree if key is None else rotated(tree, key)
                self.assertEqual(build(exchanged(order, position)), after)


class OneKeyErrors(unittest.TestCase):
    def test_tree_first(self):
        for wrong in not_trees():
            for function in (rotated, rotation_order):
                for key in (1, None, []):
                    with self.subTest(function=function.__name__, kind=wrong.__class__):
                        self.assertIs(raised(function, wrong, key).__class__, InvalidTree)

    def test_unknown_key(self):
        for tree in ((), build([1]), build([20, 10, 30]), build(list(range(1, 41)))):
            for key in unknown_keys():
                for function in (rotated, rotation_order):
                    error = raised(function, tree, key)
                    with self.subTest(function=function.__name__, kind=key.__class__):
                        self.assertIs(error.__class__, UnknownKey)
                        self.assertIs(error.key, key)

    def test_no_parent(self):
        for order in sample_orders()[1:]:
            for function in (rotated, rotation_order):
                error = raised(function, build(order), order[0])
                self.assertIs(error.__class__, NoParent)
                self.assertEqual(error.key, order[0])


class Intervals(unittest.TestCase):
    def test_against_a_linked_tree(self):
        for order in sample_orders():
            nodes = linked(order)
            expected = [(linked_below(nodes[key])[0], linked_below(nodes[key])[-1]) for key in order]
            found = intervals(build(order))
            self.assertEqual(found, sorted(expected))
            self.assertEqual(len(set(found)), len(order))
            self.assertTrue(all(one.__class__ is tuple for one in found))

    def test_not_a_tree(self):
        for wrong in not_trees():
            with self.subTest(kind=wrong.__class__):
                self.assertIs(raised(intervals, wrong).__class__, InvalidTree)

    def test_missing(self):
        for first, second in pairs_of_trees():
            expected = sorted(set(intervals(first)) - set(intervals(second)))
            self.assertEqual(missing_intervals(first, second), expected)

    def test_a_rotation_replaces_exactly_one(self):
        for order in sample_orders():
            tree = build(order)
            for key in order[1:]:
                other = rotated(tree, key)
                self.assertEqual(len(missing_intervals(tree, other)), 1)
                self.assertEqual(len(missing_intervals(other, tree)), 1)


class Route(unittest.TestCase):
    def test_leads_to_the_second_tree(self):
        for first, second in pairs_of_trees():
            keys = route(first, second)
            self.assertIs(keys.__class__, list)
            self.assertEqual(linked_after(first, keys), second)
            self.assertLessEqual(len(keys), len(first) * (len(first) - 1) // 2)
            self.assertGreaterEqual(len(keys), len(missing_intervals(first, second)))
            self.assertIs(is_route(first, second, keys), True)

    def test_from_one_path_to_the_other(self):
        first, second = build(list(range(40))), build(list(range(39, -1, -1)))
        self.assertLessEqual(len(route(first, second)), 780)
        self.assertIs(is_route(first, second, route(first, second)), True)

    def test_no_rotation(self):
        for order in sample_orders():
            self.assertEqual(route(build(order), build(order)), [])
            self.assertIs(is_route(build(order), build(order), []), True)

    def test_lists_are_new(self):
        first, second = build([3, 2, 1]), build([1, 2, 3])
        expected = list(route(first, second))
        route(first, second).clear()
        missing_intervals(first, second).clear()
        intervals(first).clear()
        self.assertEqual(route(first, second), expected)
        self.assertEqual(len(missing_intervals(first, second)), 2)


class IsRoute(unittest.TestCase):
    def test_against_a_linked_tree(self):
        for first, second in itertools.product(all_trees(3), repeat=2):
            for length in range(4):
                for candidate in itertools.product([1, 2, 3], repeat=length):
                    expected = linked_after(first, candidate) == second
                    self.assertIs(is_route(first, second, list(candidate)), expected)

    def test_one_more_or_less(self):
        for first, second in pairs_of_trees():
            keys = route(first, second)
            for at in range(0, len(keys), 60):
                fewer = keys[:at] + keys[at + 1:]
                self.assertIs(is_route(first, second, fewer), linked_after(first, fewer) == second)
                self.assertIs(is_route(first, second, keys[:at]), False)
            for key, parent in second:
                self.assertIs(is_route(first, second, keys + [key]), False)

    def test_no_parent_in_its_turn(self):
        first, second = build([3, 2, 1]), build([2, 1, 3])
        self.assertIs(is_route(first, second, [2]), True)
        self.assertIs(is_route(first, second, [3, 2]), False)
        self.assertIs(is_route(first, second, [2, 2]), False)
        self.assertIs(is_route(first, second, [2, 3, 2]), True)
        self.assertIs(is_route(first, second, [2, 1, 1, 2]), False)

    def test_elements_that_are_no_keys(self):
        first, second = build([0, 1, 20]), build([1, 0, 20])
        self.assertIs(is_route(first, second, [1]), True)
        self.assertIs(is_route(first, second, [True]), False)
        self.assertIs(is_route(first, second, [1.0]), False)
        for wrong in [None, [], [1], (), 2, -1] + other_objects():
            with self.subTest(kind=wrong.__class__):
                self.assertIs(is_route(first, second, [wrong]), False)
                self.assertIs(is_route(first, second, [1, wrong]), False)
                self.assertIs(is_route(first, second, [wrong, 1]), False)

    def test_objects_of_other_kinds(self):
        first, second = build([1, 2]), build([2, 1])
        for wrong in [None, (), (2,), 2, {2: 1}, {2}, "2", range(2, 3)] + other_objects():
            with self.subTest(kind=wrong.__class__):
                self.assertIs(is_route(first, second, wrong), False)
                self.assertIs(is_route((), (), wrong), False)

    def test_two_thousand(self):
        first, second = build([1, 2]), build([2, 1])
        self.assertIs(is_route(first, first, [2, 1] * 1000), True)
        self.assertIs(is_route(first, first, [2, 1] * 1001), False)
        self.assertIs(is_route(first, second, [2, 1] * 999 + [2]), True)
        self.assertIs(is_route(first, second, [2, 1] * 1000 + [2]), False)
        self.assertIs(is_route(first, first, [2, 1] * 50000), False)
        self.assertIs(is_route(first, first, [Awkward()] * 2001), False)

    def test_candidate_stays(self):
        candidate = [2, None, [3]]
        is_route(build([1, 2]), build([2, 1]), candidate)
        self.assertEqual(candidate, [2, None, [3]])


class FewestRotations(unittest.TestCase):
    def test_against_a_search(self):
        for size in range(6):
            greatest = 0
            for first in all_trees(size):
                steps = steps_from(first)
                for second in all_trees(size):
                    found = fewest_rotations(first, second)
                    self.assertEqual(found, steps[second])
                    self.assertEqual(fewest_rotations(second, first), found)
                    self.assertGreaterEqual(found, len(missing_intervals(first, second)))
                    self.assertLessEqual(found, len(route(first, second)))
                    greatest = max(greatest, found)
            self.assertEqual(greatest, (0, 0, 1, 2, 4, 5)[size])

    def test_six_and_seven_keys(self):
        for size in (6, 7):
            trees = [build(shuffled(range(0, size * 3, 3), seed)) for seed in range(9)]
            for first in trees[:3]:
                steps = steps_from(first)
                for second in trees:
                    self.assertEqual(fewest_rotations(first, second), steps[second])
                    self.assertEqual(fewest_rotations(second, first), steps[second])
        path = build(list(range(7)))
        self.assertEqual(fewest_rotations(path, build(list(range(6, -1, -1)))), 6)

    def test_too_large(self):
        for size in (8, 9, 20, 40):
            tree = build(list(range(size)))
            error = raised(fewest_rotations, tree, tree)
            self.assertIs(error.__class__, TooLarge)
            self.assertEqual(error.amount, size)

    def test_different_keys_before_too_large(self):
        error = raised(fewest_rotations, build(list(range(8))), build(list(range(1, 9))))
        self.assertIs(error.__class__, DifferentKeys)
        self.assertEqual(error.key, 0)


class TwoTreesErrors(unittest.TestCase):
    def errors(self, first, second):
        found = [raised(function, first, second) for function in OF_TWO_TREES]
        return found + [raised(is_route, first, second, candidate) for candidate in ([], None)]

    def test_trees_first(self):
        for wrong in not_trees():
            for first, second in ((wrong, build([1])), (build([1]), wrong), (wrong, None), (wrong, wrong)):
                for error in self.errors(first, second):
                    with self.subTest(kind=wrong.__class__):
                        self.assertIs(error.__class__, InvalidTree)

    def test_then_different_keys(self):
        rows = (([], [5], 5), ([5], [], 5), ([3, 1], [2, 1], 2), ([2, 1], [3, 1], 2), ([1, 2, 9], [9, 1, 2, 7], 7))
        for first, second, key in rows:
            for error in self.errors(build(first), build(second)):
                self.assertIs(error.__class__, DifferentKeys)
                self.assertEqual(error.key, key)
