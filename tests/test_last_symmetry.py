"""Guarantee [3] (j) for merges and keepers: shifted and negated keys."""

import itertools
import unittest

from insertionorders.keeper import Keeper
from insertionorders.merges import count_merges, is_merge_cycle, merge_for, merged_trees, merges_building
from insertionorders.texts import format_order, format_tree, parse_order, parse_tree
from insertionorders.trees import build, mirrored
from tests.support import long_orders, negated, shifted, shuffled

SHIFTS = (-1000, 1, 10 ** 17)


def merges_to_move():
    """Return tuples of two orders without common keys and a tree of all their keys."""
    found = []
    for seed, order in enumerate(long_orders()[:-1:2] + [shuffled(range(8), one) for one in range(12)]):
        second = order[::3]
        first = [key for key in order if key not in second]
        found += [(first, second, build(order)), (first, second, build(shuffled(order, seed)))]
    return found


def commands(keeper, turn):
    """Perform some commands on a keeper, with keys that are turned, and yield it after each of them."""
    for at, key in enumerate(shuffled(range(0, 50, 3), 4)):
        keeper.insert(("ann", "bob")[at % 2], turn(key))
        yield keeper
    keeper.withdraw(2)
    yield keeper
    keeper.move(5, 0)
    yield keeper
    keeper.insert_all("zoe", [turn(100), turn(-9)])
    yield keeper
    keeper.withdraw(5)
    yield keeper
    keeper.undo()
    yield keeper
    keeper.withdraw_user("bob")
    yield keeper


class Shifted(unittest.TestCase):
    def test_merges(self):
        words = set()
        for (first, second, tree), by in itertools.product(merges_to_move(), SHIFTS):
            moved = shifted(first, by), shifted(second, by)
            self.assertEqual(count_merges(*moved), count_merges(first, second))
            self.assertEqual(merges_building(*moved, shifted(tree, by)), merges_building(first, second, tree))
            word, keys = merge_for(first, second, tree)
            self.assertEqual(merge_for(*moved, shifted(tree, by))[0], word)
            self.assertIs(is_merge_cycle(*moved, shifted(tree, by), shifted(keys, by)), word == "cycle")
            words.add(word)
        self.assertEqual(words, {"order", "cycle"})

    def test_merged_trees(self):
        for seed, by in itertools.product(range(5), SHIFTS):
            order = shuffled(range(9), seed)
            first, second = order[:4], order[4:]
            expected = [(shifted(tree, by), count) for tree, count in merged_trees(first, second)]
            self.assertEqual(merged_trees(shifted(first, by), shifted(second, by)), expected)

    def test_keepers(self):
        for by in SHIFTS:
            for one, other in zip(commands(Keeper(), lambda key: key), commands(Keeper(), lambda key: key + by)):
                self.assertEqual(other.order, shifted(one.order, by))
                self.assertEqual(other.tree, shifted(one.tree, by))
                self.assertEqual((other.total, other.height, len(other)), (one.total, one.height, len(one)))
                self.assertEqual(other.numbers(), one.numbers())
                for number, key in zip(one.numbers(), one.order):
                    self.assertEqual(other.path(key + by), shifted(one.path(key), by))
                    self.assertEqual(other.consequences(number), shifted(one.consequences(number), by))
                    self.assertEqual(other.trial([number]), shifted(one.trial([number]), by))


class Negated(unittest.TestCase):
    def test_merges(self):
        for first, second, tree in merges_to_move():
            other = negated(first), negated(second)
            self.assertEqual(count_merges(*other), count_merges(first, second))
            self.assertEqual(merges_building(*other, mirrored(tree)), merges_building(first, second, tree))
            word, keys = merge_for(first, second, tree)
            self.assertEqual(merge_for(*other, mirrored(tree))[0], word)
            self.assertIs(is_merge_cycle(*other, mirrored(tree), negated(keys)), word == "cycle")

    def test_merged_trees(self):
        for seed in range(5):
            order = shuffled(range(9), seed)
            first, second = order[:4], order[4:]
            expected = {mirrored(tree): count for tree, count in merged_trees(first, second)}
            self.assertEqual(dict(merged_trees(negated(first), negated(second))), expected)

    def test_keepers(self):
        for one, other in zip(commands(Keeper(), lambda key: key), commands(Keeper(), lambda key: -key)):
            self.assertEqual(other.order, negated(one.order))
            self.assertEqual(other.tree, mirrored(one.tree))
            self.assertEqual((other.total, other.height, len(other)), (one.total, one.height, len(one)))
            for number, key in zip(one.numbers(), one.order):
                self.assertEqual(other.path(-key), negated(one.path(key)))
                self.assertEqual(other.consequences(number), negated(one.consequences(number))[::-1])
                self.assertEqual(other.trial([number]), mirrored(one.trial([number])))

    def test_texts(self):
        for order in long_orders():
            self.assertEqual(parse_order(format_order(negated(order))), negated(order))
            self.assertEqual(parse_tree(format_tree(mirrored(build(order)))), mirrored(build(order)))
