"""The examples of the interface."""

import unittest

from insertionorders.errors import InvalidOrder, UnknownKey
from insertionorders.orders import check_order, is_key
from insertionorders.trees import below, build, children, depth, height, is_tree, levels, mirrored, path
from tests.support import raised


class Orders(unittest.TestCase):
    def test_is_key(self):
        self.assertIs(is_key(True), False)

    def test_check_order(self):
        self.assertIsNone(check_order([2, 1, 3]))
        error = raised(check_order, [2, 1, 2])
        self.assertIs(error.__class__, InvalidOrder)
        self.assertEqual(error.position, 2)


class Trees(unittest.TestCase):
    def test_build(self):
        self.assertEqual(build([2, 1, 3]), ((1, 2), (2, None), (3, 2)))

    def test_is_tree(self):
        self.assertIs(is_tree(((1, 2), (2, None))), True)
        self.assertIs(is_tree(((1, None), (2, None))), False)

    def test_path(self):
        self.assertEqual(path(build([2, 1, 3]), 3), [2, 3])
        error = raised(path, build([2, 1, 3]), 4)
        self.assertIs(error.__class__, UnknownKey)
        self.assertEqual(error.key, 4)

    def test_depth_and_height(self):
        self.assertEqual(depth(build([1, 2, 3]), 3), 2)
        self.assertEqual(height(()), 0)

    def test_children_and_below(self):
        self.assertEqual(children(build([2, 1]), 2), (1, None))
        self.assertEqual(below(build([3, 1, 2]), 1), [1, 2])

    def test_levels_and_mirrored(self):
        self.assertEqual(list(levels(build([2, 1, 3]))), [[2], [1, 3]])
        self.assertEqual(mirrored(build([1, 2])), ((-2, -1), (-1, None)))
