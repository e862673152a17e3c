"""Point [21]: how many trees and orders fit observations, and the observations of a search."""

import itertools
import math
import unittest

from insertionorders.counting import count_orders
from insertionorders.errors import InvalidKeys, InvalidObservations, InvalidSearch, InvalidSize
from insertionorders.observations import answer, best_question, clash, fitting_orders, fitting_tree, fitting_trees
from insertionorders.observations import is_clash, search_observations
from insertionorders.trees import build, height, is_tree, path
from tests.support import LIMIT, all_trees, linked, linked_above, linked_path, long_orders, not_keys, orders_by_tree
from tests.support import other_objects, raised, shuffled

WITH_OBSERVATIONS = (fitting_trees, fitting_orders, fitting_tree, clash, best_question)


def above_pairs(tree):
    """Return a dict of whether the first key of each pair is above the second one, by the parents in a tree."""
    parents = dict(tree)
    uppers = {}
    for key in parents:
        uppers[key], at = [], parents[key]
        while at is not None:
            uppers[key].append(at)
            at = parents[at]
    return {(upper, lower): upper in uppers[lower] for upper, lower in itertools.permutations(parents, 2)}


def fits(pairs, observations):
    return all(pairs[upper, lower] is truth for upper, lower, truth in observations)


def some_observations(size, seed, amount):
    """Return observations about the keys from 1 to size; every third list of them is not taken from one tree."""
    pairs = list(itertools.permutations(range(1, size + 1), 2))
    truths = above_pairs(build(shuffled(range(1, size + 1), seed)))
    chosen = shuffled(pairs * 2, seed)[:amount]
    return [(*pair, truths[pair] if seed % 3 or at % 4 else not truths[pair]) for at, pair in enumerate(chosen)]


def samples():
    """Return tuples of up to five keys, observations about them, and the trees that fit, with their orders."""
    for size in range(6):
        trees = [(tree, above_pairs(tree), orders) for tree, orders in orders_by_tree(size).items()]
        for seed in range(30):
            for amount in (0, 1, 2, 3, 5, 8):
                observations = some_observations(size, seed, amount)
                fitting = [(tree, orders) for tree, pairs, orders in trees if fits(pairs, observations)]
                yield list(range(1, size + 1)), observations, fitting


def all_about(tree):
    return [(*pair, truth) for pair, truth in above_pairs(tree).items()]


class Fitting(unittest.TestCase):
    def test_against_all_trees(self):
        counts = []
        for keys, observations, fitting in samples():
            before = list(keys), list(observations)
            self.assertEqual(fitting_trees(keys, observations), len(fitting))
            self.assertEqual(fitting_orders(keys, observations), sum(len(orders) for tree, orders in fitting))
            found = fitting_tree(keys, observations)
            self.assertIn(found, [tree for tree, orders in fitting] or [None])
            self.assertEqual((keys, observations), before)
            counts.append(len(fitting))
        self.assertIn(0, counts)
        self.assertIn(1, counts)
        self.assertGreater(max(counts), 20)

    def test_every_height(self):
        for keys, observations, fitting in samples():
            for most in (0, 1, 2, 3, 4, 5, 6, 40):
                low = [(tree, orders) for tree, orders in fitting if height(tree) <= most]
                self.assertEqual(fitting_trees(keys, observations, max_height=most), len(low))
                expected = sum(len(orders) for tree, orders in low)
                self.assertEqual(fitting_orders(keys, observations, max_height=most), expected)

    def test_each_single_observation(self):
        for size in (2, 3, 4):
            trees = [above_pairs(tree) for tree in all_trees(size)]
            for upper, lower in itertools.permutations(range(1, size + 1), 2):
                for truth in (True, False):
                    one = (upper, lower, truth)
                    expected = sum(fits(pairs, [one]) for pairs in trees)
                    self.assertEqual(fitting_trees(list(range(1, size + 1)), [one]), expected)

    def test_without_observations(self):
        for size in range(41):
            keys = list(range(-size, size, 2))
            self.assertEqual(fitting_trees(keys, []), math.comb(2 * size, size) // (size + 1))
            self.assertEqual(fitting_trees(keys, [], max_height=size), fitting_trees(keys, []))
        for size in range(0, 41, 5):
            keys = list(range(-size, size, 2))
            self.assertEqual(fitting_orders(keys, []), math.factorial(size))
            self.assertEqual(fitting_orders(keys, [], max_height=40), math.factorial(size))
            if size:
                self.assertEqual(fitting_orders(keys, [], max_height=size - 1), math.factorial(size) - 2 ** (size - 1))
                self.assertEqual(fitting_trees(keys, [], max_height=size.bit_length() - 1), 0)
                self.assertGreater(fitting_trees(keys, [], max_height=size.bit_length()), 0)
                self.assertEqual(fitting_trees(keys, [], max_height=0), 0)

    def test_one_tree(self):
        for order in long_orders()[::3]:
            tree = build(order)
            keys = sorted(order)
            observations = shuffled(all_about(tree), 3)
            self.assertLessEqual(len(observations), 1560)
            self.assertEqual(fitting_trees(keys, observations), 1)
            self.assertEqual(fitting_orders(keys, observations), count_orders(tree))
            self.assertEqual(fitting_tree(keys, observations), tree)
            self.assertEqual(fitting_trees(keys, observations, max_height=height(tree)), 1)
            self.assertEqual(fitting_orders(keys, observations, max_height=height(tree) - 1), 0)
            upper, lower, truth = observations[-1]
            contrary = observations + [(upper, lower, not truth)]
            self.assertEqual(fitting_trees(keys, contrary), 0)
            self.assertIsNone(fitting_tree(keys, contrary))

    def test_part_of_one_tree(self):
        for order in long_orders()[::2]:
            keys = sorted(order)
            observations = shuffled(all_about(build(order)), len(order))[:len(order) * 2]
            found = fitting_tree(keys, observations)
            self.assertIs(is_tree(found), True)
            self.assertEqual([key for key, parent in found], keys)
            self.assertTrue(fits(above_pairs(found), observations))

    def test_no_keys(self):
        self.assertEqual(fitting_trees([], []), 1)
        self.assertEqual(fitting_orders([], []), 1)
        self.assertEqual(fitting_trees([], [], max_height=0), 1)
        self.assertEqual(fitting_tree([], []), ())
        self.assertEqual(fitting_tree([-LIMIT], []), ((-LIMIT, None),))
        self.assertEqual(fitting_tree([-LIMIT, LIMIT], [(LIMIT, -LIMIT, True)]), ((-LIMIT, LIMIT), (LIMIT, None)))


class Search(unittest.TestCase):
    def test_by_hand(self):
        self.assertEqual(search_observations([5], [5]), [])
        self.assertEqual(search_observations([1, 2, 3, 4], [2]), [(1, 2, False), (3, 2, False), (4, 2, False)])
        expected = [(4, 1, True), (1, 3, True), (2, 3, False), (5, 3, False)]
        self.assertEqual(search_observations([1, 2, 3, 4, 5], [4, 1, 3]), expected)

    def test_listed_order(self):
        for order in long_orders():
            for key in order[::9]:
                keys, met = sorted(order), linked_path(linked(order)[key])
                expected = [(one, other, True) for one, other in zip(met, met[1:])]
                expected += [(one, key, False) for one in keys if one not in met]
                before = list(keys), list(met)
                found = search_observations(keys, met)
                self.assertEqual(found, expected)
                self.assertTrue(all(one.__class__ is tuple and one[2].__class__ is bool for one in found))
                self.assertEqual((keys, met), before)

    def test_fits_exactly_the_trees_with_this_path(self):
        for size in range(1, 6):
            keys = list(range(1, size + 1))
            trees = all_trees(size)
            for length in range(1, size + 1):
                for met in itertools.permutations(keys, length):
                    expected = sum(path(tree, met[-1]) == list(met) for tree in trees)
                    self.assertEqual(fitting_trees(keys, search_observations(keys, list(met))), expected)

    def test_invalid_keys_first(self):
        for wrong, position in not_keys():
            for met in ([], None, [1]):
                error = raised(search_observations, wrong, met)
                with self.subTest(kind=wrong.__class__):
                    self.assertIs(error.__class__, InvalidKeys)
                    self.assertEqual(error.position, position)

    def refused(self, keys, met, position):
        error = raised(search_observations, keys, met)
        with self.subTest(kind=met.__class__):
            self.assertIs(error.__class__, InvalidSearch)
            self.assertEqual(error.position, position)

    def test_invalid_search(self):
        for wrong in [None, (), (2,), [], {2: 2}] + other_objects():
            if not isinstance(wrong, list) or not wrong:
                self.refused([1, 2, 3], wrong, None)
                self.refused([], wrong, None)
        for wrong in [None, [], (), [2], 0, 4] + other_objects():
            self.refused([1, 2, 3], [wrong], 0)
            self.refused([1, 2, 3], [3, 1, wrong, None], 2)
            self.refused([], [wrong], 0)
        self.refused([1, 2, 3], [1, 1], 1)
        self.refused([1, 2, 3], [3, 1, 2, 3], 3)
        self.refused([1, 2, 3], [3, True], 1)
        self.refused(list(range(40)), list(range(40)) + [7], 40)
        self.refused(list(range(40)), [1] * 100000, 1)


def not_observations():
    """Return pairs of an object that is not a list of observations about 1, 2 and 3, and the position in its error."""
    right = [(1, 2, True), (3, 1, False)]
    others = [None] + other_objects()
    wrong = [(other, None) for other in [(), tuple(right), set(right)] + others if not isinstance(other, list)]
    wrong += [([(1, 2, True)] * 1601, None), ([None] * 1601, None)]
    elements = [1, (), (1, 2), (1, 2, True, True), (1, 1, True), (1, 4, True), (0, 1, False), [1, 2, True], "12T"]
    elements += [(1, 2, 1), (1, 2, 0), (1, 2, None), (True, 2, True), (2, True, True), (1, 2.0, True), ((1, 2), True)]
    elements += [other for other in others if other.__class__ is not tuple] + [((1, 2, True),)]
    elements += [(1, other, True) for other in others] + [(other, 1, True) for other in others]
    elements += [(1, 2, other) for other in others if other is not True and other is not False]
    for element in elements:
        wrong += [([element], 0), (right + [element], 2), (right[:1] + [element, None], 1)]
    return wrong


class Errors(unittest.TestCase):
    def calls(self, keys, observations):
        calls = [(function, keys, observations) for function in WITH_OBSERVATIONS]
        return calls + [(answer, keys, observations, None, None), (is_clash, keys, observations, None)]

    def refused(self, kind, position, keys, observations):
        for function, *arguments in self.calls(keys, observations):
            error = raised(function, *arguments)
            with self.subTest(function=function.__name__, kinds=[one.__class__ for one in arguments]):
                self.assertIs(error.__class__, kind)
                self.assertEqual(error.position, position)

    def test_keys_first(self):
        for wrong, position in not_keys():
            self.refused(InvalidKeys, position, wrong, None)
            self.refused(InvalidKeys, position, wrong, [])

    def test_then_observations(self):
        for wrong, position in not_observations():
            self.refused(InvalidObservations, position, [1, 2, 3], wrong)
        self.refused(InvalidObservations, 0, [], [(1, 2, True)])

    def test_sixteen_hundred(self):
        observations = [(1, 2, True)] * 1600
        self.assertEqual(fitting_trees([1, 2, 3], observations), 3)
        self.assertEqual(fitting_orders([1, 2, 3], observations), 3)
        self.assertIsNotNone(fitting_tree([1, 2, 3], observations))
        self.assertEqual(answer([1, 2, 3], observations, 1, 2), "always")
        self.assertEqual(answer([1, 2, 3], observations, 1, 3), "open")
        self.assertIsNone(clash([1, 2, 3], observations))
        self.assertEqual(best_question([1, 2, 3], observations), (1, 3))
        self.refused(InvalidObservations, None, [1, 2, 3], observations + [(1, 2, True)])
        keys = list(range(40))
        many = all_about(build(shuffled(keys, 5)))
        self.assertEqual(fitting_trees(keys, many + many[:40]), 1)
        self.refused(InvalidObservations, None, keys, many + many[:41])

    def test_max_height(self):
        for function in (fitting_trees, fitting_orders):
            for wrong in [-1, 41, LIMIT, [], [1], ()] + other_objects():
                error = raised(function, [1, 2, 3], [], max_height=wrong)
                with self.subTest(function=function.__name__, kind=wrong.__class__):
                    self.assertIs(error.__class__, InvalidSize)
                    self.assertIs(error.value, wrong)
                    self.assertIs(raised(function, [2, 1], [], max_height=wrong).__class__, InvalidKeys)
                    self.assertIs(raised(function, [1], [1], max_height=wrong).__class__, InvalidObservations)
            for right in (None, 0, 1, 40):
                self.assertIsNone(raised(function, [1, 2, 3], [], max_height=right))
            self.assertIs(raised(function, [1, 2, 3], [], 2).__class__, TypeError)
