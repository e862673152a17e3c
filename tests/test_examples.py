"""The examples of the interface."""

import unittest

from insertionorders.ancestry import ancestors, depths, first_between, is_above, meeting, total
from insertionorders.counting import count_orders, next_order, number_of, order_at, orders_of
from insertionorders.errors import InvalidOrder, UnknownKey
from insertionorders.exchanges import between, difference, distance, effect, exchanged, exchanges, same_tree
from insertionorders.gaps import act_alike, alike_at, grow, hiding_certificate, hiding_places, is_hiding_certificate
from insertionorders.gaps import parts, separating_gap
from insertionorders.orders import check_order, is_key
from insertionorders.trees import below, build, children, depth, height, is_tree, levels, mirrored, path
from tests.support import raised


class Orders(unittest.TestCase):
    def test_is_key(self):
        self.assertIs(is_key(True), False)

    def test_check_order(self):
        self.assertIsNone(check_order([2, 1, 3]))
        error = raised(check_order, [2, 1, 2])
        self.assertIs(error.__class__, InvalidOrder)
        self.assertEqual(error.position, 2)


class Trees(unittest.TestCase):
    def test_build(self):
        self.assertEqual(build([2, 1, 3]), ((1, 2), (2, None), (3, 2)))

    def test_is_tree(self):
        self.assertIs(is_tree(((1, 2), (2, None))), True)
        self.assertIs(is_tree(((1, None), (2, None))), False)

    def test_path(self):
        self.assertEqual(path(build([2, 1, 3]), 3), [2, 3])
        error = raised(path, build([2, 1, 3]), 4)
        self.assertIs(error.__class__, UnknownKey)
        self.assertEqual(error.key, 4)

    def test_depth_and_height(self):
        self.assertEqual(depth(build([1, 2, 3]), 3), 2)
        self.assertEqual(height(()), 0)

    def test_children_and_below(self):
        self.assertEqual(children(build([2, 1]), 2), (1, None))
        self.assertEqual(below(build([3, 1, 2]), 1), [1, 2])

    def test_levels_and_mirrored(self):
        self.assertEqual(list(levels(build([2, 1, 3]))), [[2], [1, 3]])
        self.assertEqual(mirrored(build([1, 2])), ((-2, -1), (-1, None)))


class Ancestry(unittest.TestCase):
    def test_first_between(self):
        self.assertEqual(first_between([2, 1, 3], 0, 1), 1)

    def test_is_above_and_ancestors(self):
        self.assertIs(is_above([2, 1, 3], 2, 3), True)
        self.assertEqual(ancestors([2, 1, 3], 3), [2])

    def test_meeting(self):
        self.assertEqual(meeting([2, 1, 3], 1, 3), 2)

    def test_depths_and_total(self):
        self.assertEqual(depths([3, 1, 2]), [0, 1, 2])
        self.assertEqual(total([3, 1, 2]), 3)


class Exchanges(unittest.TestCase):
    def test_exchanged_and_effect(self):
        self.assertEqual(exchanged([2, 1, 3], 1), [2, 3, 1])
        self.assertEqual(effect([2, 1, 3], 0), 1)
        self.assertIsNone(effect([2, 1, 3], 1))

    def test_same_tree_and_difference(self):
        self.assertIs(same_tree([2, 1, 3], [2, 3, 1]), True)
        self.assertEqual(difference([1, 2], [2, 1]), (1, [1], [2, 1]))

    def test_distance_exchanges_and_between(self):
        self.assertEqual(distance([1, 2, 3], [3, 2, 1]), 3)
        self.assertEqual(exchanges([2, 1, 3], [2, 3, 1]), [1])
        self.assertEqual(list(between([2, 1, 3], [2, 3, 1])), [[2, 1, 3], [2, 3, 1]])


class Counting(unittest.TestCase):
    def test_count_orders(self):
        self.assertEqual(count_orders(build([2, 1, 3])), 2)

    def test_numbers(self):
        self.assertEqual(order_at(build([2, 1, 3]), 1), [2, 3, 1])
        self.assertEqual(number_of([2, 3, 1]), 1)

    def test_one_after_another(self):
        self.assertEqual(next_order([2, 1, 3]), [2, 3, 1])
        self.assertEqual(list(orders_of(build([2, 1, 3]))), [[2, 1, 3], [2, 3, 1]])


class Gaps(unittest.TestCase):
    def test_grow_and_parts(self):
        self.assertEqual(grow(build([2]), [1]), ((1, 2), (2, None)))
        self.assertEqual(parts([5], [7, 1, 3]), [[1, 3], [7]])

    def test_act_alike_and_separating_gap(self):
        self.assertIs(act_alike([2], [1, 3], [3, 1]), True)
        self.assertEqual(separating_gap([5], [1, 2], [2, 1]), 0)

    def test_hiding(self):
        self.assertIs(alike_at([1, 3], [3, 1], [1]), True)
        self.assertEqual(hiding_places([1, 3], [3, 1]), [1])
        self.assertEqual(hiding_certificate([1, 3], [3, 1]), [(1, 3)])
        self.assertIs(is_hiding_certificate([1, 3], [3, 1], [(1, 3)]), True)
