"""Point [10]: counting and numbering the orders of a tree."""

import itertools
import math
import types
import unittest

from insertionorders.counting import count_orders, next_order, number_of, order_at, orders_of
from insertionorders.errors import InvalidNumber, InvalidOrder, InvalidTree
from insertionorders.trees import below, build
from tests.support import LIMIT, Awkward, linked_pairs, long_orders, not_orders, not_trees, orders_by_tree
from tests.support import other_objects, raised, sample_orders, shuffled


def some_numbers(count):
    """Return numbers from 0 to the count minus 1, the first and the last ones among them."""
    numbers = {0, 1, 2, count // 3, count // 2, count - 3, count - 2, count - 1}
    numbers |= {count * part // 1009 + part for part in shuffled(range(1009), 5)[:8]}
    return sorted(number for number in numbers if 0 <= number < count)


class FewKeys(unittest.TestCase):
    def test_against_all_orders(self):
        for size in range(7):
            for tree, orders in orders_by_tree(size).items():
                self.assertEqual(count_orders(tree), len(orders))
                self.assertEqual(list(orders_of(tree)), orders)
                self.assertEqual([order_at(tree, number) for number in range(len(orders))], orders)
                self.assertEqual([number_of(order) for order in orders], list(range(len(orders))))
                self.assertEqual([next_order(order) for order in orders], orders[1:] + [None])

    def test_other_keys(self):
        for size in range(6):
            for tree, orders in orders_by_tree(size).items():
                spread = (None, -LIMIT, -3, 0, 10, LIMIT)
                far = [[spread[key] for key in order] for order in orders]
                self.assertEqual(list(orders_of(build(far[0]))), far)

    def test_all_trees_together(self):
        for size in range(7):
            self.assertEqual(sum(count_orders(tree) for tree in orders_by_tree(size)), math.factorial(size))

    def test_empty_tree(self):
        self.assertEqual(count_orders(()), 1)
        self.assertEqual(order_at((), 0), [])
        self.assertEqual(number_of([]), 0)
        self.assertIsNone(next_order([]))
        self.assertEqual(list(orders_of(())), [[]])


class ManyKeys(unittest.TestCase):
    def test_count(self):
        for order in sample_orders():
            tree = build(order)
            product = math.prod(len(below(tree, key)) for key in order)
            self.assertEqual(count_orders(tree), math.factorial(len(order)) // product)
            self.assertEqual(count_orders(tree) * product, math.factorial(len(order)))

    def test_known_counts(self):
        self.assertEqual(count_orders(build(list(range(40)))), 1)
        self.assertEqual(count_orders(build([0, *range(-1, -20, -1), *range(1, 21)])), math.comb(39, 19))

    def test_numbers_there_and_back(self):
        for order in long_orders():
            tree = build(order)
            previous = None
            for number in some_numbers(count_orders(tree)):
                found = order_at(tree, number)
                self.assertEqual(linked_pairs(found), tree)
                self.assertEqual(number_of(found), number)
                self.assertTrue(previous is None or previous < found)
                previous = found

    def test_orders_there_and_back(self):
        for order in long_orders():
            before = list(order)
            self.assertEqual(order_at(build(order), number_of(order)), order)
            self.assertEqual(order, before)

    def test_first_and_last(self):
        for order in long_orders():
            tree = build(order)
            for number, choose in ((0, min), (count_orders(tree) - 1, max)):
                expected = []
                while len(expected) < len(order):
                    free = [key for key, parent in tree if key not in expected and parent in [None, *expected]]
                    expected.append(choose(free))
                self.assertEqual(order_at(tree, number), expected)
                self.assertEqual(number_of(expected), number)

    def test_next_order(self):
        for order in long_orders():
            tree = build(order)
            count = count_orders(tree)
            for number in some_numbers(count):
                found = next_order(order_at(tree, number))
                if number == count - 1:
                    self.assertIsNone(found)
                else:
                    self.assertEqual(number_of(found), number + 1)
                    self.assertEqual(linked_pairs(found), tree)
                    self.assertGreater(found, order_at(tree, number))

    def test_no_order_lies_between(self):
        # Whatever stands between an order and the next one shares the beginning of both, so it is seen here.
        for order in long_orders()[::5]:
            following = next_order(order)
            if following is None:
                continue
            tree = build(order)
            at = [one != other for one, other in zip(order, following)].index(True)
            placed, rest = order[:at], sorted(order[at:])
            free = [key for key, parent in tree if key in rest and parent in [None, *placed]]
            self.assertEqual(following[at], min(key for key in free if key > order[at]))
            self.assertEqual(order_at(tree, number_of(following) - 1), order)

    def test_first_elements_come_at_once(self):
        for order in long_orders():
            tree = build(order)
            first = list(itertools.islice(orders_of(tree), 12))
            self.assertEqual(first, [order_at(tree, number) for number in range(min(12, count_orders(tree)))])


class Generator(unittest.TestCase):
    def test_it_is_a_generator(self):
        self.assertIsInstance(orders_of(()), types.GeneratorType)
        self.assertIsInstance(orders_of(None), types.GeneratorType)

    def test_errors_come_with_the_first_element(self):
        for wrong in not_trees():
            orders = orders_of(wrong)
            with self.subTest(kind=wrong.__class__):
                self.assertIs(raised(next, orders).__class__, InvalidTree)

    def test_yielded_lists_belong_to_the_caller(self):
        tree = build([3, 1, 5, 2, 4])
        expected, found = list(orders_of(tree)), []
        for order in orders_of(tree):
            found.append(list(order))
            order.clear()
        self.assertEqual(found, expected)
        self.assertEqual(len({id(order) for order in expected}), len(expected))


class NewObjects(unittest.TestCase):
    def test_returned_lists(self):
        tree = build([2, 1, 3])
        for function, *arguments in ((order_at, tree, 1), (next_order, [2, 1, 3])):
            found = function(*arguments)
            self.assertIs(found.__class__, list)
            found.append(None)
            self.assertEqual(function(*arguments), [2, 3, 1])

    def test_kinds(self):
        self.assertIs(count_orders(build([2, 1, 3])).__class__, int)
        self.assertIs(number_of([2, 1, 3]).__class__, int)

    def test_argument_is_kept_as_it_is(self):
        order = [2, 1, 3]
        number_of(order)
        following = next_order(order)
        self.assertEqual(order, [2, 1, 3])
        self.assertIsNot(following, order)


class Errors(unittest.TestCase):
    def test_trees(self):
        for wrong in not_trees():
            for function, *arguments in ((count_orders, wrong), (order_at, wrong, 0), (order_at, wrong, None)):
                with self.subTest(function=function.__name__, kind=wrong.__class__):
                    self.assertIs(raised(function, *arguments).__class__, InvalidTree)

    def test_orders(self):
        for wrong, position in not_orders():
            for function in (number_of, next_order):
                error = raised(function, wrong)
                with self.subTest(function=function.__name__, kind=wrong.__class__):
                    self.assertIs(error.__class__, InvalidOrder)
                    self.assertEqual(error.position, position)

    def refused(self, tree, number):
        error = raised(order_at, tree, number)
        self.assertIs(error.__class__, InvalidNumber)
        self.assertIs(error.value, number)

    def test_numbers_out_of_range(self):
        for order in [[], [1], [2, 1, 3], [4, 2, 6, 1, 3, 5]] + long_orders():
            tree = build(order)
            count = count_orders(tree)
            for number in (-1, -2, -count, count, count + 1, 10 ** 60, -10 ** 60):
                self.refused(tree, number)

    def test_numbers_of_other_kinds(self):
        for order in ([], [1], [2, 1, 3], list(range(40))):
            tree = build(order)
            for number in [None, [], [0], (), Awkward()] + other_objects():
                if number.__class__ is not int:
                    with self.subTest(length=len(order), kind=number.__class__):
                        self.refused(tree, number)
