"""Merges of orders: how many there are, and which of them build a tree."""

from insertionorders.counting import factorial
from insertionorders.facts import shortest_cycle, smallest_order
from insertionorders.orders import MAX_KEYS, check_amount, check_new, check_order, check_same_keys, is_key
from insertionorders.trees import check_tree, keys_in, parents_in, tree_after

MAX_MERGED = 10


def count_merges(*orders):
    """Return the number of merges of any number of orders without common keys."""
    for order in orders:
        check_order(order)
    keys = []
    ways = 1
    for order in orders:
        check_new(keys, order)
        keys.extend(order)
        ways *= factorial(len(order))
    return factorial(len(keys)) // ways


def merges_building(first, second, tree):
    """Return how many merges of two orders build the tree."""
    check_merge(first, second, tree)
    parents = parents_in(tree)
    # The number of ways to begin with so many keys of the first and of the second order.
    ways = {(taken, more): 0 for taken in range(len(first) + 1) for more in range(len(second) + 1)}
    ways[(0, 0)] = 1
    for taken, more in list(ways):
        begun = first[:taken] + second[:more]
        if can_go_on(parents, begun, first[taken:]):
            ways[(taken + 1, more)] += ways[(taken, more)]
        if can_go_on(parents, begun, second[more:]):
            ways[(taken, more + 1)] += ways[(taken, more)]
    return ways[(len(first), len(second))]


def merge_for(first, second, tree):
    """Return a merge of two orders that builds the tree, or a cycle of keys because of which there is none."""
    check_merge(first, second, tree)
    keys = keys_in(tree)
    pairs = list(zip(first, first[1:])) + list(zip(second, second[1:]))
    pairs += [(parent, key) for key, parent in tree if parent is not None]
    order = smallest_order(keys, pairs)
    if order is not None:
        return ("order", order)
    return ("cycle", shortest_cycle(keys, pairs)[:-1])


def is_merge_cycle(first, second, tree, candidate):
    """Return whether any object is a list of keys, each of which must come before the next one, round and round."""
    check_merge(first, second, tree)
    parents = parents_in(tree)
    # A list of more keys than the tree has contains one of them twice.
    if not isinstance(candidate, list) or not 2 <= len(candidate) <= len(parents):
        return False
    for position, key in enumerate(candidate):
        if not is_key(key) or key not in parents or key in candidate[:position]:
            return False
    return all([parents[later] == earlier or comes_before(first, earlier, later) or comes_before(second, earlier, later)
                for earlier, later in zip(candidate, candidate[1:] + candidate[:1])])


def merged_trees(first, second):
    """Return the trees that merges build, each with the number of these, by the smallest merge that builds it."""
    check_order(first)
    check_order(second)
    check_new(first, second)
    check_amount(len(first) + len(second), MAX_MERGED)
    counts = {}
    for merge in sorted(all_merges(first, second)):
        tree = tree_after(merge)
        counts[tree] = counts.get(tree, 0) + 1
    return list(counts.items())


def check_merge(first, second, tree):
    """Raise an error unless two orders without common keys and a tree of all their keys are given."""
    check_order(first)
    check_order(second)
    check_tree(tree)
    check_new(first, second)
    check_amount(len(first) + len(second), MAX_KEYS)
    check_same_keys(first + second, keys_in(tree))


def can_go_on(parents, begun, rest):
    """Return whether there is a next key, and its parent, if it has one, is among those that a merge has begun with."""
    return bool(rest) and (parents[rest[0]] is None or parents[rest[0]] in begun)


def comes_before(order, earlier, later):
    """Return whether an order has two keys, one before the other."""
    return later in order and earlier in order[:order.index(later)]


def all_merges(first, second):
    """Return the list of all merges of two orders of few keys."""
    if not first or not second:
        return [first + second]
    beginning = [first[:1] + rest for rest in all_merges(first[1:], second)]
    return beginning + [second[:1] + rest for rest in all_merges(first, second[1:])]
