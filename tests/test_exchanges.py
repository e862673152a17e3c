"""Points [8] and [9]: exchanges, and orders that build the same tree."""

import itertools
import types
import unittest

from insertionorders.errors import DifferentKeys, DifferentTrees, InvalidOrder, InvalidPosition
from insertionorders.exchanges import between, difference, distance, effect, exchanged, exchanges, same_tree
from insertionorders.trees import build, path
from tests.support import LIMIT, Awkward, all_orders, linked_pairs, long_orders, long_pairs, not_orders, orders_by_tree
from tests.support import other_objects, raised, sample_orders


def listed(first, second):
    return list(between(first, second))


OF_TWO_ORDERS = (same_tree, difference, distance, exchanges, listed)


def all_pairs(size):
    return list(itertools.product(all_orders(size), repeat=2))


def pairs_of_one_tree():
    """Return all pairs of orders of one tree for few keys, and pairs of orders of many keys."""
    pairs = []
    for size in range(6):
        for orders in orders_by_tree(size).values():
            pairs += itertools.product(orders, repeat=2)
    return pairs + long_pairs()[::4]


def pairs_in_different_order(first, second):
    return [pair for pair in itertools.combinations(first, 2) if second.index(pair[0]) > second.index(pair[1])]


class OneExchange(unittest.TestCase):
    def test_each_position(self):
        for order in sample_orders():
            before = list(order)
            tree = dict(linked_pairs(order))
            for position in range(len(order) - 1):
                changed = exchanged(order, position)
                expected = list(order)
                expected[position], expected[position + 1] = order[position + 1], order[position]
                self.assertEqual(changed, expected)
                self.assertIs(changed.__class__, list)
                found = effect(order, position)
                if linked_pairs(changed) == linked_pairs(order):
                    self.assertIsNone(found)
                else:
                    self.assertEqual(found, order[position + 1])
                    self.assertEqual(tree[found], order[position])
            self.assertEqual(order, before)

    def test_new_list(self):
        order = [2, 1, 3]
        changed = exchanged(order, 0)
        changed.append(9)
        self.assertEqual(order, [2, 1, 3])
        self.assertEqual(exchanged(order, 0), [1, 2, 3])

    def test_twice_leads_back(self):
        for order in long_orders():
            for position in range(len(order) - 1):
                self.assertEqual(exchanged(exchanged(order, position), position), order)


class Positions(unittest.TestCase):
    def refused(self, order, position):
        before = list(order)
        for function in (exchanged, effect):
            error = raised(function, order, position)
            self.assertIs(error.__class__, InvalidPosition)
            self.assertIs(error.value, position)
        self.assertEqual(order, before)

    def test_other_integers(self):
        for order in ([], [5], [2, 1], [2, 1, 3], list(range(40))):
            for position in (-1, -2, len(order) - 1, len(order), len(order) + 1, 100, -LIMIT, LIMIT):
                if not 0 <= position <= len(order) - 2:
                    self.refused(order, position)

    def test_other_objects(self):
        for order in ([], [5], [2, 1, 3], list(range(40))):
            for position in [None, [], [0], ()] + other_objects():
                with self.subTest(length=len(order), kind=position.__class__):
                    self.refused(order, position)

    def test_order_before_position(self):
        for wrong, position in not_orders():
            for function in (exchanged, effect):
                for value in (None, 0, 7, Awkward()):
                    error = raised(function, wrong, value)
                    self.assertIs(error.__class__, InvalidOrder)
                    self.assertEqual(error.position, position)


class Comparing(unittest.TestCase):
    def check_pair(self, first, second):
        one, other = build(first), build(second)
        differing = [key for key in sorted(first) if path(one, key) != path(other, key)]
        self.assertIs(same_tree(first, second), one == other)
        if differing:
            key = differing[0]
            self.assertEqual(difference(first, second), (key, path(one, key), path(other, key)))
            self.assertNotEqual(one, other)
        else:
            self.assertIsNone(difference(first, second))
            self.assertEqual(one, other)

    def test_few_keys(self):
        for size in range(5):
            for first, second in all_pairs(size):
                self.check_pair(first, second)
        for first, second in all_pairs(5)[::17]:
            self.check_pair(first, second)

    def test_many_keys(self):
        for first, second in long_pairs():
            self.check_pair(first, second)
            self.check_pair(second, first)

    def test_paths_are_new_lists(self):
        key, one, other = difference([2, 1, 3], [1, 2, 3])
        self.assertEqual((key, one, other), (1, [2, 1], [1]))
        self.assertEqual((one.__class__, other.__class__), (list, list))
        one.clear()
        other.clear()
        self.assertEqual(difference([2, 1, 3], [1, 2, 3]), (1, [2, 1], [1]))
        self.assertIsNot(one, other)

    def test_only_a_deep_path_differs(self):
        first, second = [5, 1, 9, 7, 8, 6], [5, 9, 1, 8, 7, 6]
        self.assertEqual(difference(first, second), (6, [5, 9, 7, 6], [5, 9, 8, 7, 6]))

    def test_empty(self):
        self.assertIs(same_tree([], []), True)
        self.assertIsNone(difference([], []))
        self.assertEqual(distance([], []), 0)
        self.assertEqual(exchanges([], []), [])
        self.assertEqual(listed([], []), [[]])


class Distance(unittest.TestCase):
    def check_pair(self, first, second):
        apart = distance(first, second)
        self.assertEqual(apart, len(pairs_in_different_order(first, second)))
        self.assertEqual(distance(second, first), apart)
        self.assertIs(apart == 0, first == second)
        self.assertIs(apart.__class__, int)

    def test_few_keys(self):
        for size in range(5):
            for first, second in all_pairs(size):
                self.check_pair(first, second)

    def test_many_keys(self):
        for first, second in long_pairs():
            self.check_pair(first, second)
            self.check_pair(first, list(first))

    def test_greatest(self):
        order = long_orders()[-1]
        self.assertEqual(distance(order, order[::-1]), 780)


class Exchanges(unittest.TestCase):
    def test_they_lead_to_the_second_order(self):
        for first, second in pairs_of_one_tree():
            originals = list(first), list(second)
            positions = exchanges(first, second)
            self.assertIs(positions.__class__, list)
            self.assertEqual(len(positions), len(pairs_in_different_order(first, second)))
            current, tree = list(first), linked_pairs(first)
            expected = [list(first)]
            for position in positions:
                current[position], current[position + 1] = current[position + 1], current[position]
                self.assertEqual(linked_pairs(current), tree)
                expected.append(list(current))
            self.assertEqual(current, second)
            self.assertEqual(listed(first, second), expected)
            self.assertEqual((first, second), originals)

    def test_no_pair_twice(self):
        for first, second in long_pairs()[::4]:
            orders = listed(first, second)
            swapped = set()
            for one, other in zip(orders, orders[1:]):
                swapped.add(frozenset(key for key, now in zip(one, other) if key != now))
            self.assertEqual(swapped, {frozenset(pair) for pair in pairs_in_different_order(first, second)})

    def test_long_way(self):
        first, second = [0, *range(-1, -20, -1), *range(1, 21)], [0, *range(1, 21), *range(-1, -20, -1)]
        self.assertEqual(len(exchanges(first, second)), 380)
        self.assertEqual(len(listed(first, second)), 381)

    def test_equal_orders(self):
        for order in long_orders():
            self.assertEqual(exchanges(order, list(order)), [])
            self.assertEqual(listed(order, order), [order])


class Between(unittest.TestCase):
    def test_it_is_a_generator(self):
        self.assertIsInstance(between([], []), types.GeneratorType)
        self.assertIsInstance(between(None, 5), types.GeneratorType)

    def test_errors_come_with_the_first_element(self):
        for first, second, kind in ((None, [], InvalidOrder), ([], (), InvalidOrder), ([1], [2], DifferentKeys),
                                    ([1, 2], [2, 1], DifferentTrees)):
            orders = between(first, second)
            self.assertIs(raised(next, orders).__class__, kind)

    def test_arguments_are_read_with_the_first_element(self):
        first, second = [1, 2], [3]
        orders = between(first, second)
        first[:], second[:] = [2, 1, 3], [2, 3, 1]
        self.assertEqual(list(orders), [[2, 1, 3], [2, 3, 1]])

    def test_later_changes_have_no_effect(self):
        for first, second in long_pairs()[::4]:
            expected = listed(first, second)
            first, second = list(first), list(second)
            orders = between(first, second)
            found = [next(orders)]
            first.clear()
            second[:] = ["x"]
            self.assertEqual(found + list(orders), expected)

    def test_yielded_lists_belong_to_the_caller(self):
        for first, second in long_pairs()[::4]:
            expected, found = listed(first, second), []
            for order in between(first, second):
                found.append(list(order))
                order.clear()
            self.assertEqual(found, expected)
            self.assertEqual(len({id(order) for order in expected}), len(expected))
            self.assertFalse(any(order is first or order is second for order in expected))


class Errors(unittest.TestCase):
    def refused(self, kind, field, value, first, second, functions=OF_TWO_ORDERS):
        for function in functions:
            error = raised(function, first, second)
            with self.subTest(function=function.__name__):
                self.assertIs(error.__class__, kind)
                self.assertEqual(getattr(error, field), value)

    def test_invalid_orders(self):
        for wrong, position in not_orders():
            self.refused(InvalidOrder, "position", position, wrong, [1, 2])
            self.refused(InvalidOrder, "position", position, [1, 2], wrong)

    def test_first_order_before_second(self):
        self.refused(InvalidOrder, "position", 1, [5, 5], None)
        self.refused(InvalidOrder, "position", None, (5, 5), [5, 5])
        self.refused(InvalidOrder, "position", 2, [1, 2, True], [True])

    def test_different_keys(self):
        self.refused(DifferentKeys, "key", 1, [1], [])
        self.refused(DifferentKeys, "key", 1, [], [1])
        self.refused(DifferentKeys, "key", 2, [3, 1], [1, 2])
        self.refused(DifferentKeys, "key", 2, [1, 2], [1, 3])
        self.refused(DifferentKeys, "key", -7, [5, 3, 1], [1, 3, 5, -7])
        self.refused(DifferentKeys, "key", 9, [9, 5, 3, 1], [1, 3, 5])
        self.refused(DifferentKeys, "key", 0, list(range(40)), list(range(40, 0, -1)))
        self.refused(DifferentKeys, "key", -LIMIT, [LIMIT], [-LIMIT])

    def test_different_trees(self):
        for first, second in all_pairs(4) + long_pairs():
            differing = difference(first, second)
            if differing is not None:
                self.refused(DifferentTrees, "key", differing[0], first, second, (exchanges, listed))

    def test_keys_before_trees(self):
        self.refused(DifferentKeys, "key", 3, [1, 2], [2, 1, 3], (exchanges, listed))
