"""Which keys stand above which in the tree of an order, found from the order alone."""

from insertionorders.orders import MAX_KEY, check_known, check_order


def first_between(order, low, high):
    """Return the key that comes first of all keys from low to high, None if there is none."""
    check_order(order)
    return first_in(order, low, high)


def is_above(order, upper, lower):
    """Return whether a key is a proper ancestor of another one."""
    check_order(order)
    check_known(order, upper)
    check_known(order, lower)
    return upper != lower and meeting_in(order, upper, lower) == upper


def ancestors(order, key):
    """Return the list of the keys above a key, from the root on."""
    check_order(order)
    check_known(order, key)
    return keys_above(order, key)


def meeting(order, first, second):
    """Return the deepest key that is equal to or above each of both keys."""
    check_order(order)
    check_known(order, first)
    check_known(order, second)
    return meeting_in(order, first, second)


def depths(order):
    """Return the list of the depths of the keys in the order."""
    check_order(order)
    return depths_in(order)


def total(order):
    """Return the sum of the depths of all keys."""
    return sum(depths(order))


def first_in(order, low, high):
    """Return the key of a valid order that comes first of all keys from low to high, None if there is none."""
    for key in order:
        if low <= key <= high:
            return key
    return None


def meeting_in(order, first, second):
    """Return the deepest key that is equal to or above each of two known keys."""
    # As long as no key of this range is inserted, searches for both keys take the same way.
    return first_in(order, min(first, second), max(first, second))


def keys_above(order, key):
    """Return the list of the keys above a known key, from the root on."""
    above = []
    # A search for the key meets an earlier key only if none that it met before separates the two.
    low = -MAX_KEY
    high = MAX_KEY
    for other in order[:order.index(key)]:
        if low <= other < key:
            above.append(other)
            low = other
        elif key < other <= high:
            above.append(other)
            high = other
    return above


def depths_in(order):
    """Return the list of the depths of the keys in a valid order."""
    return [len(keys_above(order, key)) for key in order]


def parent_in(order, key):
    """Return the parent of a known key, None for the root."""
    above = keys_above(order, key)
    return above[-1] if above else None
