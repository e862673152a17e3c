"""Points [5] and [6]: building trees, recognising them, and reading them."""

import itertools
import unittest

from insertionorders.trees import below, build, children, depth, height, is_tree, levels, mirrored, path
from tests import support
from tests.support import LIMIT, Awkward, all_orders, linked, linked_pairs, long_orders, other_objects, sample_orders


def walk(tree, key):
    """Return the keys that comparisons from the root meet on the way to a key."""
    at = [one for one, parent in tree if parent is None][0]
    met = [at]
    while at != key:
        left, right = children(tree, at)
        at = left if key < at else right
        met.append(at)
    return met


class Build(unittest.TestCase):
    def test_by_hand(self):
        self.assertEqual(build([]), ())
        self.assertEqual(build([5]), ((5, None),))
        self.assertEqual(build([1, 2, 3]), ((1, None), (2, 1), (3, 2)))
        self.assertEqual(build([1, 3, 2]), ((1, None), (2, 3), (3, 1)))
        self.assertEqual(build([2, 3, 1]), ((1, 2), (2, None), (3, 2)))
        self.assertEqual(build([LIMIT, -LIMIT, 0]), ((-LIMIT, LIMIT), (0, -LIMIT), (LIMIT, None)))

    def test_against_a_linked_tree(self):
        for order in sample_orders():
            before = list(order)
            tree = build(order)
            self.assertEqual(tree, linked_pairs(order))
            self.assertIs(tree.__class__, tuple)
            self.assertTrue(all(pair.__class__ is tuple for pair in tree))
            self.assertEqual(order, before)

    def test_different_trees_are_counted(self):
        for size, amount in enumerate((1, 1, 2, 5, 14, 42)):
            self.assertEqual(len({build(order) for order in all_orders(size)}), amount)


class IsTree(unittest.TestCase):
    def refused(self, candidate):
        self.assertIs(is_tree(candidate), False)

    def test_trees(self):
        for order in sample_orders():
            self.assertIs(is_tree(build(order)), True)

    def test_all_choices_of_parents(self):
        for size in range(6):
            keys = range(1, size + 1)
            trees = {build(order) for order in all_orders(size)}
            for parents in itertools.product([None, *keys], repeat=size):
                candidate = tuple(zip(keys, parents))
                self.assertIs(is_tree(candidate), candidate in trees)

    def test_changed_parents(self):
        for order in long_orders():
            tree = build(order)
            for at in (0, len(tree) // 2, len(tree) - 1):
                key, parent = tree[at]
                for other in [None, *order, LIMIT - 500]:
                    changed = tree[:at] + ((key, other),) + tree[at + 1:]
                    if other != parent:
                        self.refused(changed)

    def test_changed_keys(self):
        for order in long_orders():
            tree = build(order)
            for at in (0, len(tree) // 2, len(tree) - 1):
                key, parent = tree[at]
                for other in order:
                    if other != key:
                        self.refused(tree[:at] + ((other, parent),) + tree[at + 1:])

    def test_key_renamed_but_not_as_a_parent(self):
        self.refused(((1, 2), (3, None)))
        self.refused(((1, None), (3, 2)))

    def test_removed_repeated_and_swapped_pairs(self):
        for order in [[2, 1, 3], [3, 1, 2, 4]] + long_orders():
            tree = build(order)
            inner = {parent for key, parent in tree}
            for at, pair in enumerate(tree):
                if pair[0] in inner:
                    self.refused(tree[:at] + tree[at + 1:])
                self.refused(tree[:at] + (pair, pair) + tree[at + 1:])
                self.refused(tree + (pair,))
                if at > 0:
                    self.refused(tree[:at - 1] + (pair, tree[at - 1]) + tree[at + 1:])
            self.refused(tree[::-1])

    def test_a_leaf_may_go(self):
        for order in long_orders():
            tree = build(order)
            leaf = order[-1]
            self.assertIs(is_tree(tuple(pair for pair in tree if pair[0] != leaf)), True)

    def test_pairs_of_other_kinds(self):
        tree = build([20, 10, 30])
        self.refused(list(tree))
        self.refused([])
        self.refused(tuple(list(pair) for pair in tree))
        for at in range(3):
            key, parent = tree[at]
            others = [[key, parent], (key,), (key, parent, None), (key, parent, parent), (), key, {key: parent}]
            for other in [None, [], "ab", b"ab"] + others + other_objects():
                with self.subTest(at=at, kind=other.__class__):
                    self.refused(tree[:at] + (other,) + tree[at + 1:])

    def test_keys_and_parents_of_other_kinds(self):
        tree = build([2, 1, 3])
        for at in range(3):
            for other in [[], ()] + other_objects():
                with self.subTest(at=at, kind=other.__class__):
                    self.refused(tree[:at] + ((other, tree[at][1]),) + tree[at + 1:])
                    self.refused(tree[:at] + ((tree[at][0], other),) + tree[at + 1:])
            self.refused(tree[:at] + ((None, tree[at][1]),) + tree[at + 1:])

    def test_bools_are_not_integers(self):
        self.assertIs(is_tree(((0, 1), (1, None))), True)
        self.refused(((0, True), (1, None)))
        self.refused(((0, 1), (True, None)))
        self.refused(((False, 1), (1, None)))
        self.refused(((0, True), (True, None)))
        self.refused(((0, 1), (1, False)))

    def test_cycles_and_roots(self):
        self.refused(((1, 1),))
        self.refused(((1, 2), (2, 1)))
        self.refused(((1, 2), (2, 3), (3, 1)))
        self.refused(((1, None), (2, 3), (3, 2)))
        self.refused(((1, 2), (2, None), (3, 3)))
        self.refused(((1, None), (2, None)))
        self.refused(((1, None), (2, 1), (3, None)))
        self.refused(((1, 2), (2, 2), (3, 2)))
        self.refused(((1, 5),))

    def test_search_order(self):
        self.refused(((1, 3), (2, 3), (3, None)))
        self.refused(((1, None), (2, 1), (3, 1)))
        # 2 is smaller than its parent 5, but a search for it goes to the left of 4 and never meets 5.
        self.refused(((1, 4), (2, 5), (4, None), (5, 4)))

    def test_limits(self):
        self.assertIs(is_tree(build([LIMIT, -LIMIT])), True)
        self.refused(((-LIMIT, LIMIT + 1), (LIMIT + 1, None)))
        self.refused(((-LIMIT - 1, None),))

    def test_forty_one_keys(self):
        for count, answer in ((40, True), (41, False), (42, False), (1000, False)):
            chain = tuple((key, key - 1 if key else None) for key in range(count))
            self.assertIs(is_tree(chain), answer)

    def test_other_objects(self):
        for candidate in [None, 1, [], [1]] + other_objects():
            with self.subTest(kind=candidate.__class__):
                self.refused(candidate)
        self.refused((Awkward(), Awkward()))
        self.refused(((1, Awkward()), (Awkward(), None)))


class Reading(unittest.TestCase):
    def test_each_key(self):
        for order in sample_orders():
            tree = build(order)
            nodes = linked(order)
            for key in order:
                node = nodes[key]
                self.assertEqual(path(tree, key), support.linked_path(node))
                self.assertEqual(walk(tree, key), path(tree, key))
                self.assertEqual(depth(tree, key), len(support.linked_path(node)) - 1)
                self.assertEqual(children(tree, key), (support.key_of(node.left), support.key_of(node.right)))
                self.assertEqual(below(tree, key), support.linked_below(node))

    def test_above_is_first_in_the_range(self):
        for order in long_orders()[:12]:
            tree = build(order)
            for lower in order:
                above = path(tree, lower)[:-1]
                for upper in order:
                    low, high = sorted((upper, lower))
                    first = [key for key in order if low <= key <= high][0]
                    self.assertEqual(upper in above, upper != lower and first == upper)
                    self.assertEqual(lower in below(tree, upper), first == upper)

    def test_whole_trees(self):
        for order in sample_orders():
            tree = build(order)
            nodes = linked(order)
            deep = {key: len(support.linked_path(nodes[key])) - 1 for key in order}
            rows = [sorted(key for key in order if deep[key] == at) for at in range(max(deep.values(), default=-1) + 1)]
            self.assertEqual(list(levels(tree)), rows)
            self.assertEqual(height(tree), len(rows))

    def test_mirrored(self):
        for order in sample_orders():
            tree = build(order)
            other = mirrored(tree)
            self.assertEqual(other, build([-key for key in order]))
            self.assertEqual(mirrored(other), tree)
            self.assertIs(is_tree(other), True)

    def test_empty_tree(self):
        self.assertEqual(height(()), 0)
        self.assertEqual(list(levels(())), [])
        self.assertEqual(mirrored(()), ())

    def test_kinds_of_results(self):
        tree = build([4, 2, 6, 1])
        self.assertIs(path(tree, 1).__class__, list)
        self.assertIs(depth(tree, 1).__class__, int)
        self.assertIs(height(tree).__class__, int)
        self.assertIs(children(tree, 2).__class__, tuple)
        self.assertIs(below(tree, 2).__class__, list)
        self.assertTrue(all(row.__class__ is list for row in levels(tree)))
        self.assertIs(mirrored(tree).__class__, tuple)
