"""Search trees, as tuples of pairs (key, parent) in ascending order of the keys."""

from insertionorders.ancestry import parent_in
from insertionorders.errors import InvalidTree
from insertionorders.orders import MAX_KEYS, check_known, check_order, is_key


def build(order):
    """Return the tree that the insertions in this order build."""
    check_order(order)
    return tree_after(order)


def is_tree(candidate):
    """Return whether any object is the tree of some order."""
    if not has_tree_form(candidate):
        return False
    # A tree is built by every order in which parents come before their children, so one of them decides.
    return candidate == tree_after(row_by_row(candidate))


def path(tree, key):
    """Return the list of the keys from the root to the key."""
    check_tree(tree)
    parents = parents_in(tree)
    check_known(parents, key)
    return path_in(parents, key)


def depth(tree, key):
    """Return the number of keys above the key."""
    return len(path(tree, key)) - 1


def height(tree):
    """Return the number of keys on the longest path, 0 for the empty tree."""
    check_tree(tree)
    return len(rows_of(tree))


def children(tree, key):
    """Return the tuple of the left and the right child, None for a missing one."""
    check_tree(tree)
    check_known(parents_in(tree), key)
    left = None
    right = None
    for child in keys_under(tree, [key]):
        if child < key:
            left = child
        else:
            right = child
    return (left, right)


def below(tree, key):
    """Return the ascending list of the key and all keys that it is above."""
    check_tree(tree)
    parents = parents_in(tree)
    check_known(parents, key)
    return [other for other in parents if key in path_in(parents, other)]


def levels(tree):
    """Yield the ascending list of the keys at each depth from 0 on."""
    check_tree(tree)
    # All rows are found before the first is given away, because its new owner may change it.
    yield from rows_of(tree)


def mirrored(tree):
    """Return the tree with all keys negated."""
    check_tree(tree)
    return tuple([(-key, None if parent is None else -parent) for key, parent in reversed(tree)])


def check_tree(candidate):
    """Raise InvalidTree for any object that is not a tree."""
    if not is_tree(candidate):
        raise InvalidTree()


def tree_after(order):
    """Return the tree after the insertions of different keys."""
    return tuple([(key, parent_in(order, key)) for key in sorted(order)])


def has_tree_form(candidate):
    """Return whether any object is a tuple of not too many pairs with ascending keys."""
    if not isinstance(candidate, tuple) or len(candidate) > MAX_KEYS:
        return False
    if not all([is_pair(pair) for pair in candidate]):
        return False
    keys = keys_in(candidate)
    return all([low < high for low, high in zip(keys, keys[1:])])


def is_pair(candidate):
    """Return whether any object is a tuple of a key and its parent: a key or None."""
    if not isinstance(candidate, tuple) or len(candidate) != 2:
        return False
    key, parent = candidate
    return is_key(key) and (parent is None or is_key(parent))


def keys_in(pairs):
    """Return the list of the keys of the pairs, as they stand there."""
    return [key for key, parent in pairs]


def parents_in(tree):
    """Return a dict of the parent of each key, in ascending order of the keys."""
    return {key: parent for key, parent in tree}


def path_in(parents, key):
    """Return the list of the keys from the root to a known key."""
    met = []
    at = key
    while at is not None:
        met.append(at)
        at = parents[at]
    return met[::-1]


def rows_of(pairs):
    """Return the ascending lists of the keys that are reached from no parent by 1, 2, .. steps down.

    The pairs need not be a tree: what is on a cycle, or has an unknown parent, is not reached.
    """
    rows = []
    row = keys_under(pairs, [None])
    while row:
        rows.append(row)
        row = keys_under(pairs, row)
    return rows


def row_by_row(pairs):
    """Return the keys that are reached from no parent, parents before their children: an order of a tree."""
    return [key for row in rows_of(pairs) for key in row]


def keys_under(pairs, parents):
    """Return the ascending list of the keys with one of these parents."""
    return [key for key, parent in pairs if parent in parents]
