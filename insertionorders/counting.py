"""The orders of a tree: how many there are, and their numbers in ascending order."""

from insertionorders.errors import InvalidNumber
from insertionorders.orders import is_within
from insertionorders.trees import build, check_tree, keys_under, parents_in, path_in


def count_orders(tree):
    """Return the number of orders that build the tree."""
    check_tree(tree)
    return count_with(sizes_in(tree))


def order_at(tree, number):
    """Return the order of the tree with this number."""
    check_tree(tree)
    sizes = sizes_in(tree)
    if not is_within(number, 0, count_with(sizes) - 1):
        raise InvalidNumber(number)
    return order_with(tree, sizes, number)


def number_of(order):
    """Return the number of an order among the orders of its tree."""
    tree = build(order)
    sizes = sizes_in(tree)
    count = count_with(sizes)
    number = 0
    free = keys_under(tree, [None])
    for key in order:
        number += share(count, sizes, free, smaller(free, key))
        count = share(count, sizes, free, [key])
        free = free_after(tree, free, key)
    return number


def next_order(order):
    """Return the next order of the same tree, None for the last one."""
    tree = build(order)
    sizes = sizes_in(tree)
    number = number_of(order) + 1
    if number == count_with(sizes):
        return None
    return order_with(tree, sizes, number)


def orders_of(tree):
    """Yield all orders of the tree in ascending order."""
    check_tree(tree)
    sizes = sizes_in(tree)
    for number in range(count_with(sizes)):
        yield order_with(tree, sizes, number)


def sizes_in(tree):
    """Return a dict of the number of keys that each key is equal to or above."""
    parents = parents_in(tree)
    sizes = {key: 0 for key in parents}
    for key in parents:
        for upper in path_in(parents, key):
            sizes[upper] += 1
    return sizes


def count_with(sizes):
    """Return the number of orders of a tree with these sizes: the factorial divided by all of them."""
    product = 1
    for size in sizes.values():
        product *= size
    return factorial(len(sizes)) // product


def order_with(tree, sizes, number):
    """Return the order of the tree with a valid number."""
    count = count_with(sizes)
    rest = number
    order = []
    free = keys_under(tree, [None])
    while free:
        # The orders that go on with a smaller key have the smaller numbers.
        key = max([one for one in free if share(count, sizes, free, smaller(free, one)) <= rest])
        order.append(key)
        rest -= share(count, sizes, free, smaller(free, key))
        count = share(count, sizes, free, [key])
        free = free_after(tree, free, key)
    return order


def share(count, sizes, free, chosen):
    """Return how many of the orders go on with a chosen one of the free keys."""
    # The free keys are the roots of all that is left, and orders of the parts below them are merged in all ways:
    # so a part gives the next key in as great a share of the merges as it has of the keys.
    return count * sum([sizes[key] for key in chosen]) // sum([sizes[key] for key in free])


def smaller(keys, key):
    """Return the list of those keys that are smaller than a key."""
    return [other for other in keys if other < key]


def free_after(tree, free, key):
    """Return the list of the keys that can come next after a free key is inserted."""
    return [other for other in free if other != key] + keys_under(tree, [key])


def factorial(amount):
    """Return the number of orders of so many keys."""
    product = 1
    for factor in range(2, amount + 1):
        product *= factor
    return product


def choose(amount, chosen):
    """Return the number of ways to choose so many of an amount."""
    return factorial(amount) // (factorial(chosen) * factorial(amount - chosen))
