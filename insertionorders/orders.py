"""Keys, and orders in which they are inserted."""

from insertionorders.errors import InvalidOrder, UnknownKey

MAX_KEYS = 40
MAX_KEY = 10 ** 18


def is_key(candidate):
    """Return whether any object is a key."""
    if not isinstance(candidate, int) or isinstance(candidate, bool):
        return False
    return -MAX_KEY <= candidate <= MAX_KEY


def check_order(candidate):
    """Raise InvalidOrder for any object that is not an order."""
    if not isinstance(candidate, list) or len(candidate) > MAX_KEYS:
        raise InvalidOrder(None)
    seen = set()
    for position, key in enumerate(candidate):
        # The first test keeps objects that cannot be members of a set away from the second one.
        if not is_key(key) or key in seen:
            raise InvalidOrder(position)
        seen.add(key)


def check_known(keys, key):
    """Raise UnknownKey for any object that is not one of the keys."""
    # True equals 1, and a list cannot be looked up in a dict: so what is no key is turned away first.
    if not is_key(key) or key not in keys:
        raise UnknownKey(key)
