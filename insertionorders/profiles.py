"""Numbers of orders by the height, the total and the depths of the trees that they build."""

from insertionorders.ancestry import depths_in
from insertionorders.counting import choose, factorial
from insertionorders.errors import InvalidNumber, InvalidSize
from insertionorders.facts import check_facts, counts_by_worth, keys_before
from insertionorders.orders import MAX_KEYS, check_amount, check_keys, check_known, is_within

MAX_SIZE = 30
MAX_TOTAL_SIZE = 16
MAX_KEPT = 10
MAX_KEPT_HEIGHTS = 7


def height_counts(size):
    """Return the list of the numbers of orders by the height of their trees, from 0 to the size."""
    check_size(size, 0, MAX_SIZE)
    at_most = [1] + [0] * size
    counts = [at_most[size]]
    for height in range(1, size + 1):
        higher = [1] + [orders_with_parts(at_most, amount) for amount in range(1, size + 1)]
        counts.append(higher[size] - at_most[size])
        at_most = higher
    return counts


def total_counts(size):
    """Return the list of the numbers of orders by their total, from 0 to the greatest one."""
    check_size(size, 0, MAX_TOTAL_SIZE)
    rows = [[1]]
    for amount in range(1, size + 1):
        counts = [0] * (steepest(amount) + 1)
        for left in range(amount):
            right = amount - 1 - left
            ways = choose(amount - 1, left)
            for one, first in enumerate(rows[left]):
                for other, second in enumerate(rows[right]):
                    # Each key but the root is one deeper than in its own part.
                    counts[amount - 1 + one + other] += ways * first * second
        rows.append(counts)
    return rows[size]


def depth_counts(size, rank):
    """Return the list of the numbers of orders by the depth of the key with so many smaller keys."""
    check_size(size, 1, MAX_SIZE)
    if not is_within(rank, 0, size - 1):
        raise InvalidNumber(rank)
    return depths_beside(rank, size - 1 - rank)


def least_total(size):
    """Return the least total of the orders of so many keys."""
    check_size(size, 0, MAX_KEYS)
    # A depth has at most twice as many keys as the one before: the number of the bits of n, less 1, is the depth
    # of the n-th key if each depth is filled before the next one.
    return sum([number.bit_length() - 1 for number in range(1, size + 1)])


def greatest_total(size):
    """Return the greatest total of the orders of so many keys."""
    check_size(size, 0, MAX_KEYS)
    return steepest(size)


def flattest_order(keys):
    """Return an order of the keys with the least total."""
    check_keys(keys)
    return middle_first(keys)


def steepest_order(keys):
    """Return an order of the keys with the greatest total."""
    check_keys(keys)
    return list(keys)


def kept_totals(keys, facts):
    """Return the list of the numbers of orders that keep the facts by their total."""
    check_facts(keys, facts)
    check_amount(len(keys), MAX_KEPT)
    size = len(keys)
    # The total counts the pairs of keys of which one is above the other: each with the insertion of the upper one.
    return counts_by_worth(keys, facts, steepest(size), lambda inserted, place: amount_below(inserted, place, size))


def kept_depths(keys, facts, key):
    """Return the list of the numbers of orders that keep the facts by the depth of a key."""
    check_facts(keys, facts)
    check_amount(len(keys), MAX_KEPT)
    check_known(keys, key)
    target = keys.index(key)
    return counts_by_worth(keys, facts, len(keys) - 1,
                           lambda inserted, place: 1 if comes_above(inserted, place, target) else 0)


def kept_heights(keys, facts):
    """Return the list of the numbers of orders that keep the facts by the height of their trees."""
    check_facts(keys, facts)
    check_amount(len(keys), MAX_KEPT_HEIGHTS)
    counts = [0] * (len(keys) + 1)
    for order in orders_keeping(keys, facts):
        counts[max([0] + [depth + 1 for depth in depths_in(order)])] += 1
    return counts


def check_size(size, least, most):
    """Raise InvalidSize for any object that is not an integer from least to most."""
    if not is_within(size, least, most):
        raise InvalidSize(size)


def orders_with_parts(counts, amount):
    """Return the number of orders whose two parts, beside the first key, are of those that are counted by size."""
    return sum([choose(amount - 1, left) * counts[left] * counts[amount - 1 - left] for left in range(amount)])


def steepest(size):
    """Return the number of pairs of keys: each is counted if all keys stand on one path."""
    return size * (size - 1) // 2


def depths_beside(smaller, greater):
    """Return the list of the numbers of orders by the depth of a key with so many smaller and greater ones."""
    table = {}
    for left in range(smaller + 1):
        for right in range(greater + 1):
            counts = [factorial(left + right)] + [0] * (left + right)
            # Another first key leaves fewer keys beside this one on one side; those beyond it come in any order.
            for rest in [(fewer, right) for fewer in range(left)] + [(left, fewer) for fewer in range(right)]:
                ways = factorial(left + right) // factorial(sum(rest) + 1)
                for depth, count in enumerate(table[rest]):
                    counts[depth + 1] += ways * count
            table[(left, right)] = counts
    return table[(smaller, greater)]


def middle_first(keys):
    """Return the keys in an order that halves what is left again and again."""
    if not keys:
        return []
    middle = len(keys) // 2
    return [keys[middle]] + middle_first(keys[:middle]) + middle_first(keys[middle + 1:])


def comes_above(inserted, place, other):
    """Return whether the key at a place, if it is inserted now, is above the key at another place."""
    low = min(place, other)
    high = max(place, other)
    # It is above the other one if it comes first of all keys from one to the other.
    return place != other and (inserted >> low) & ((1 << (high - low + 1)) - 1) == 0


def amount_below(inserted, place, size):
    """Return how many keys the key at a place is above if it is inserted now."""
    return len([other for other in range(size) if comes_above(inserted, place, other)])


def orders_keeping(keys, facts):
    """Return the list of all orders of few keys that keep the facts."""
    needed = {key: keys_before(keys, facts, key) for key in keys}
    orders = [[]]
    for length in range(len(keys)):
        orders = [order + [key] for order in orders for key in keys if can_follow(order, key, needed[key])]
    return orders


def can_follow(order, key, needed):
    """Return whether a key is not in an order yet, but all that it needs is."""
    return key not in order and all([other in order for other in needed])
