"""Rotations of trees, and routes of rotations that lead from one tree to another."""

from insertionorders.errors import NoParent
from insertionorders.orders import check_amount, check_known, check_same_keys, is_key
from insertionorders.trees import check_tree, keys_in, parents_in, path_in, row_by_row

MAX_ROUTE = 2000
MAX_SEARCHED = 7


def rotated(tree, key):
    """Return the tree after a rotation at a key that has a parent."""
    check_rotation(tree, key)
    return tree_rotated(tree, key)


def rotation_order(tree, key):
    """Return an order of the tree and the position at which an exchange builds the rotated tree."""
    check_rotation(tree, key)
    order = row_by_row(tree)
    # The key moves to the front only, up to its parent: so parents still come before their children.
    order.remove(key)
    position = order.index(parents_in(tree)[key])
    order.insert(position + 1, key)
    return (order, position)


def intervals(tree):
    """Return the ascending list of the smallest and the greatest key in and below each key."""
    check_tree(tree)
    parents = parents_in(tree)
    lows = {}
    highs = {}
    for key in parents:
        for upper in path_in(parents, key):
            # The keys come in ascending order, so the first one below a key stays its low, and the last one its high.
            lows.setdefault(upper, key)
            highs[upper] = key
    return sorted([(lows[key], highs[key]) for key in parents])


def missing_intervals(first, second):
    """Return the ascending list of the intervals of the first tree that the second one does not have."""
    check_two_trees(first, second)
    kept = intervals(second)
    return [interval for interval in intervals(first) if interval not in kept]


def route(first, second):
    """Return a list of keys; rotations at them, one after another, lead from the first tree to the second."""
    check_two_trees(first, second)
    parents = parents_in(first)
    targets = parents_in(second)
    keys = []
    for key in row_by_row(second):
        # All that is above the key in the second tree is in place. So the key takes fewer rotations than there are
        # keys in its part of the tree, and all keys together no more than there are pairs.
        while parents[key] != targets[key]:
            rotate(parents, key)
            keys.append(key)
    return keys


def is_route(first, second, candidate):
    """Return whether any object is a list of not too many keys at which rotations lead to the second tree."""
    check_two_trees(first, second)
    if not isinstance(candidate, list) or len(candidate) > MAX_ROUTE:
        return False
    parents = parents_in(first)
    for key in candidate:
        if not is_key(key) or parents.get(key) is None:
            return False
        rotate(parents, key)
    return parents == parents_in(second)


def fewest_rotations(first, second):
    """Return the length of a shortest route between two trees of few keys."""
    check_two_trees(first, second)
    check_amount(len(first), MAX_SEARCHED)
    seen = {first}
    row = [first]
    steps = 0
    while second not in seen:
        further = []
        for neighbour in neighbours_of(row):
            if neighbour not in seen:
                seen.add(neighbour)
                further.append(neighbour)
        row = further
        steps += 1
    return steps


def check_rotation(tree, key):
    """Raise an error unless the first object is a tree and the second one a key of it that has a parent."""
    check_tree(tree)
    parents = parents_in(tree)
    check_known(parents, key)
    if parents[key] is None:
        raise NoParent(key)


def check_two_trees(first, second):
    """Raise an error unless both objects are trees and have the same keys."""
    check_tree(first)
    check_tree(second)
    check_same_keys(keys_in(first), keys_in(second))


def rotate(parents, key):
    """Change a dict of the parent of each key by a rotation at a key that has a parent."""
    parent = parents[key]
    low = min(key, parent)
    high = max(key, parent)
    for child in list(parents):
        # Only the inner child changes sides; the outer one stays below the key.
        if parents[child] == key and low < child < high:
            parents[child] = parent
    parents[key] = parents[parent]
    parents[parent] = key


def tree_rotated(tree, key):
    """Return a valid tree after a rotation at a key that has a parent."""
    parents = parents_in(tree)
    rotate(parents, key)
    return tuple(parents.items())


def neighbours_of(trees):
    """Return the list of the trees that one rotation makes of one of these trees."""
    return [tree_rotated(tree, key) for tree in trees for key, parent in tree if parent is not None]
