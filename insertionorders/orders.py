"""Keys, and orders in which they are inserted."""

from insertionorders.errors import DifferentKeys, DuplicateKey, InvalidKeys, InvalidOrder, TooLarge, UnknownKey

MAX_KEYS = 40
MAX_KEY = 10 ** 18


def is_key(candidate):
    """Return whether any object is a key."""
    return is_within(candidate, -MAX_KEY, MAX_KEY)


def check_order(candidate):
    """Raise InvalidOrder for any object that is not an order."""
    if not isinstance(candidate, list) or len(candidate) > MAX_KEYS:
        raise InvalidOrder(None)
    seen = set()
    for position, key in enumerate(candidate):
        # The first test keeps objects that cannot be members of a set away from the second one.
        if not is_key(key) or key in seen:
            raise InvalidOrder(position)
        seen.add(key)


def is_integer(candidate):
    """Return whether any object is an integer, which True and False are not."""
    return isinstance(candidate, int) and not isinstance(candidate, bool)


def is_within(candidate, low, high):
    """Return whether any object is an integer from low to high."""
    return is_integer(candidate) and low <= candidate <= high


def check_known(keys, key):
    """Raise UnknownKey for any object that is not one of the keys."""
    # True equals 1, and a list cannot be looked up in a dict: so what is no key is turned away first.
    if not is_key(key) or key not in keys:
        raise UnknownKey(key)


def check_two_known(keys, first, second):
    """Raise UnknownKey for the first, then for the second object unless they are two different ones of the keys."""
    check_known(keys, first)
    check_known(keys, second)
    if first == second:
        raise UnknownKey(second)


def check_amount(amount, most):
    """Raise TooLarge if there are more keys than allowed."""
    if amount > most:
        raise TooLarge(amount)


def check_keys(candidate):
    """Raise InvalidKeys for any object that is not an ascending list of different keys."""
    if not isinstance(candidate, list) or len(candidate) > MAX_KEYS:
        raise InvalidKeys(None)
    position = ascending_until(candidate, -MAX_KEY, MAX_KEY)
    if position < len(candidate):
        raise InvalidKeys(position)


def ascending_until(candidates, least, most):
    """Return the position of the first object that is no integer in the bounds, or not greater than the previous one.

    It is the length of the list if there is no such object.
    """
    lowest = least
    for position, candidate in enumerate(candidates):
        if not is_within(candidate, lowest, most):
            return position
        lowest = candidate + 1
    return len(candidates)


def check_new(present, order):
    """Raise DuplicateKey for the first key of an order that is present already."""
    for key in order:
        if key in present:
            raise DuplicateKey(key)


def check_same_keys(first, second):
    """Raise DifferentKeys for the smallest key that only one of two lists of keys has."""
    single = [key for key in first if key not in second] + [key for key in second if key not in first]
    if single:
        raise DifferentKeys(min(single))


def check_two_orders(first, second):
    """Raise an error unless both objects are orders and have the same keys."""
    check_order(first)
    check_order(second)
    check_same_keys(first, second)
