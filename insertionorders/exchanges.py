"""Exchanges of neighbouring insertions, and orders that build the same tree."""

from insertionorders.ancestry import is_above, keys_above
from insertionorders.errors import DifferentTrees, InvalidPosition
from insertionorders.orders import check_order, check_two_orders, is_within


def exchanged(order, position):
    """Return the order after the elements at the position and the next one are swapped."""
    check_exchange(order, position)
    return order[:position] + [order[position + 1], order[position]] + order[position + 2:]


def effect(order, position):
    """Return the key that the exchange at the position rotates, None if it leaves the tree as it is."""
    check_exchange(order, position)
    later = order[position + 1]
    return later if is_above(order, order[position], later) else None


def same_tree(first, second):
    """Return whether two orders of the same keys build the same tree."""
    return difference(first, second) is None


def difference(first, second):
    """Return the smallest key whose paths differ, with its paths in both trees, None if the trees are the same."""
    check_two_orders(first, second)
    for key in sorted(first):
        one = keys_above(first, key)
        other = keys_above(second, key)
        if one != other:
            return (key, one + [key], other + [key])
    return None


def distance(first, second):
    """Return the number of pairs of keys that stand in different order."""
    check_two_orders(first, second)
    ranks = [second.index(key) for key in first]
    return sum([1 for at, rank in enumerate(ranks) for later in ranks[at + 1:] if later < rank])


def exchanges(first, second):
    """Return the positions of as few exchanges as possible that lead to the second order and keep the tree."""
    differing = difference(first, second)
    if differing is not None:
        raise DifferentTrees(differing[0])
    positions = []
    current = list(first)
    for target, key in enumerate(second):
        # All keys that this one passes come after it in the second order. So no pair is swapped twice, and the
        # keys of a pair stand in both orders of one tree in different order: neither is above the other.
        positions.extend(list(range(current.index(key) - 1, target - 1, -1)))
        current.remove(key)
        current.insert(target, key)
    return positions


def between(first, second):
    """Yield the first order and each order that the exchanges to the second one lead to."""
    positions = exchanges(first, second)
    current = list(first)
    # Only copies are given away, because their new owner may change them.
    yield list(current)
    for position in positions:
        current = exchanged(current, position)
        yield list(current)


def check_exchange(order, position):
    """Raise an error unless the first object is an order and the second one a position that has a next one."""
    check_order(order)
    if not is_within(position, 0, len(order) - 2):
        raise InvalidPosition(position)
