"""What orders do on trees that contain keys already, and which places make two orders act alike."""

from insertionorders.ancestry import meeting_in
from insertionorders.errors import InvalidPosition
from insertionorders.exchanges import same_tree
from insertionorders.orders import MAX_KEY, MAX_KEYS, ascending_until, check_amount, check_keys, check_new
from insertionorders.orders import check_order, check_two_orders, is_key
from insertionorders.trees import check_tree, keys_in, row_by_row, tree_after


def grow(tree, order):
    """Return the tree after the keys of the order are inserted into it."""
    check_tree(tree)
    check_order(order)
    check_new(keys_in(tree), order)
    check_amount(len(tree) + len(order), MAX_KEYS)
    return tree_after(row_by_row(tree) + order)


def parts(present, order):
    """Return, for each gap of the present keys, the list of the order's keys in it."""
    check_keys(present)
    check_order(order)
    check_new(present, order)
    return cut(present, order)


def act_alike(present, first, second):
    """Return whether two orders act alike on the trees of the present keys."""
    return separating_gap(present, first, second) is None


def separating_gap(present, first, second):
    """Return the number of the first gap in which two orders do not act alike, None if there is none."""
    check_keys(present)
    check_two_orders(first, second)
    check_new(present, first)
    return separating_group(present, first, second)


def alike_at(first, second, places):
    """Return whether two orders act alike if there are present keys in exactly these places."""
    check_two_orders(first, second)
    check_places(len(first), places)
    keys = sorted(first)
    return separating_group([keys[place] for place in places], first, second) is None


def hiding_places(first, second):
    """Return an ascending list of as few places as possible that make two orders act alike."""
    conflicts = hiding_certificate(first, second)
    keys = sorted(first)
    return [keys.index(high) for low, high in conflicts]


def hiding_certificate(first, second):
    """Return as many conflicts as there are hiding places, each beginning at or after the end of the previous one."""
    check_two_orders(first, second)
    keys = sorted(first)
    conflicts = []
    begin = 0
    for end, high in enumerate(keys):
        # Two orders of a group act alike if it contains no conflict. So the group goes on until one ends here;
        # the place before this key is the last one that parts it, and the next group begins with the key.
        ending = [(low, high) for low in keys[begin:end] if is_conflict(first, second, low, high)]
        if ending:
            conflicts.append(ending[0])
            begin = end
    return conflicts


def is_hiding_certificate(first, second, candidate):
    """Return whether any object is an ascending list of conflicts that do not overlap."""
    check_two_orders(first, second)
    if not isinstance(candidate, list):
        return False
    end = -MAX_KEY
    for pair in candidate:
        if not is_ascending_pair(pair):
            return False
        low, high = pair
        if low < end or not is_conflict(first, second, low, high):
            return False
        end = high
    return True


def check_places(size, places):
    """Raise InvalidPosition unless the object is an ascending list of places between so many keys."""
    if not isinstance(places, list):
        raise InvalidPosition(None)
    position = ascending_until(places, 1, size - 1)
    if position < len(places):
        raise InvalidPosition(places[position])


def cut(starts, order):
    """Return the lists of the order's keys before the first start, and from each start up to the next one."""
    groups = [[] for number in range(len(starts) + 1)]
    for key in order:
        groups[len([start for start in starts if start <= key])].append(key)
    return groups


def separating_group(starts, first, second):
    """Return the number of the first group whose keys two orders build different trees of, None if there is none."""
    for number, (one, other) in enumerate(zip(cut(starts, first), cut(starts, second))):
        if not same_tree(one, other):
            return number
    return None


def is_conflict(first, second, low, high):
    """Return whether, of all keys from low to high, one of both comes first in one order, the other in the other."""
    comes_first = (meeting_in(first, low, high), meeting_in(second, low, high))
    return comes_first == (low, high) or comes_first == (high, low)


def is_ascending_pair(candidate):
    """Return whether any object is a tuple of two keys, the smaller one first."""
    if not isinstance(candidate, tuple) or len(candidate) != 2:
        return False
    low, high = candidate
    return is_key(low) and is_key(high) and low < high
