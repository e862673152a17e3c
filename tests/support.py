"""What several tests share: sample orders, objects of other kinds, and a plain linked search tree."""

import itertools

LIMIT = 10 ** 18


class Node:
    """A node of a linked search tree, against which the package's trees are compared."""

    def __init__(self, key, parent):
        self.key = key
        self.parent = parent
        self.left = None
        self.right = None


def linked(order):
    """Insert the keys into a linked tree; return its nodes by their keys."""
    nodes = {}
    root = None
    for key in order:
        parent, at = None, root
        while at is not None:
            parent, at = at, at.left if key < at.key else at.right
        node = nodes[key] = Node(key, parent)
        if parent is None:
            root = node
        elif key < parent.key:
            parent.left = node
        else:
            parent.right = node
    return nodes


def key_of(node):
    return None if node is None else node.key


def linked_pairs(order):
    nodes = linked(order)
    return tuple((key, key_of(nodes[key].parent)) for key in sorted(nodes))


def linked_path(node):
    keys = []
    while node is not None:
        keys.insert(0, node.key)
        node = node.parent
    return keys


def linked_below(node):
    if node is None:
        return []
    return linked_below(node.left) + [node.key] + linked_below(node.right)


def shuffled(keys, seed):
    """Return the keys in an order that depends on the seed only."""
    keys = list(keys)
    state = seed
    for last in range(len(keys) - 1, 0, -1):
        state = (state * 1103515245 + 12345) % 2 ** 31
        other = (state >> 8) % (last + 1)
        keys[last], keys[other] = keys[other], keys[last]
    return keys


def all_orders(size):
    """Return all orders of the keys from 1 to size."""
    return [list(keys) for keys in itertools.permutations(range(1, size + 1))]


def long_orders():
    """Return orders of many keys, up to forty, some of them at the limits."""
    orders = [shuffled(range(-size, size * 6, 7), size) for size in range(6, 41)]
    orders += [shuffled(range(-20, 20), seed) for seed in range(12)]
    orders.append(list(range(40)))
    orders.append(list(range(40, 0, -1)))
    orders.append([way * key for key in range(1, 21) for way in (1, -1)])
    orders.append(shuffled(list(range(LIMIT - 19, LIMIT + 1)) + list(range(-LIMIT, 20 - LIMIT)), 3))
    return orders


def other_order(order, seed):
    """Return another order of the same tree, found by the parents in a linked tree."""
    nodes = linked(order)
    result = []
    for key in shuffled(order, seed):
        # What is missing of the path to a key is inserted right before the key.
        result += [upper for upper in linked_path(nodes[key]) if upper not in result]
    return result


def orders_by_tree(size):
    """Return a dict of the ascending list of all orders of each tree of the keys from 1 to size."""
    found = {}
    for order in all_orders(size):
        found.setdefault(linked_pairs(order), []).append(order)
    return {tree: sorted(orders) for tree, orders in found.items()}


def long_pairs():
    """Return pairs of orders of the same many keys: of the same tree, of trees that differ little, or much."""
    pairs = []
    for seed, order in enumerate(long_orders()):
        alike = other_order(order, seed)
        at = seed % (len(order) - 1)
        swapped = alike[:at] + [alike[at + 1], alike[at]] + alike[at + 2:]
        pairs += [(order, alike), (order, swapped), (order, shuffled(order, seed + 100)), (order, order[::-1])]
    return pairs


def sample_orders():
    """Return all orders of up to five keys, and longer ones."""
    return [order for size in range(6) for order in all_orders(size)] + long_orders()


def all_trees(size):
    """Return all trees of the keys from 1 to size."""
    return list(orders_by_tree(size))


def linked_above(nodes, upper, lower):
    """Return whether a key is a proper ancestor of another one in a linked tree."""
    return upper != lower and upper in linked_path(nodes[lower])


def keeps(order, facts):
    """Return whether each fact holds in an order."""
    return all(order.index(earlier) < order.index(later) for earlier, later in facts)


def keeping(keys, facts):
    """Return the ascending list of all orders of the keys that keep the facts."""
    return [list(order) for order in itertools.permutations(sorted(keys)) if keeps(order, facts)]


def some_facts(keys, seed, amount):
    """Return some facts, at most so many, that an order which depends on the seed keeps."""
    return shuffled(itertools.combinations(shuffled(keys, seed), 2), seed + 1)[:amount]


def shifted(value, by):
    """Return the value with all integers in it shifted; None, bools and strings stay."""
    if isinstance(value, (list, tuple)):
        return value.__class__(shifted(item, by) for item in value)
    return value if value is None or isinstance(value, (bool, str)) else value + by


def negated(value):
    """Return the value with all integers in it negated; None, bools and strings stay, and nothing is reversed."""
    if isinstance(value, (list, tuple)):
        return value.__class__(negated(item) for item in value)
    return value if value is None or isinstance(value, (bool, str)) else -value


class Awkward:
    """An object that can be neither compared, hashed, shown, measured nor iterated over."""

    def refuse(self, *rest):
        raise RuntimeError("this object must be left alone")

    __eq__ = __ne__ = __lt__ = __gt__ = __le__ = __ge__ = refuse
    __hash__ = __len__ = __iter__ = __bool__ = __repr__ = __contains__ = __getitem__ = refuse


def other_objects():
    """Return objects that are neither keys nor None, orders or trees."""
    return [
        True, False, 1.0, 0.0, float("nan"), float("inf"), 1j, "", "1", "abc", b"", b"1", bytearray(b"1"),
        [[]], [()], (1,), (1, 2), ((),), {}, {1: 2}, set(), {1}, frozenset(), frozenset([1]), range(0), range(3),
        object(), Awkward(), len, int, list, tuple, iter([]), iter([1]), (key for key in [1]), NotImplemented, ...,
        ValueError(1), LIMIT + 1, -LIMIT - 1, 10 ** 5000,
    ]


def not_orders():
    """Return pairs of an object that is not an order and the position in its error."""
    wrong = [(None, None), ((), None), ((1, 2), None), (1, None), (list(range(41)), None), ([None] * 41, None)]
    wrong += [([1, 1], 1), ([True], 0), ([2, None], 1), ([1, 2, 3, 2], 3), ([[1]], 0), ([0, LIMIT + 1], 1)]
    return wrong + [(other, None) for other in other_objects() if not isinstance(other, list)]


def not_keys():
    """Return pairs of an object that is not an ascending list of keys and the position in its error."""
    wrong = [(None, None), ((), None), ((1, 2), None), (1, None), (list(range(41)), None), ([None] * 41, None)]
    wrong += [([2, 1], 1), ([1, 1], 1), ([1, 2, 2], 2), ([1, 3, 2, 4], 2), ([True], 0), ([0, True], 1), ([1, None], 1)]
    wrong += [([LIMIT + 1], 0), ([-LIMIT - 1], 0), ([LIMIT, LIMIT], 1), ([1, 2, [3]], 2), ([Awkward()], 0)]
    wrong += [([1, element], 1) for element in [None, [], ()] + other_objects()]
    return wrong + [(other, None) for other in other_objects() if not isinstance(other, list)]


def not_trees():
    """Return objects that are not trees."""
    wrong = [None, 1, [], [(1, None)], ((1, None), (2, None)), ((1, 2), (2, 1)), ((2, None), (1, 2)), ([1, None],)]
    return wrong + other_objects()


def unknown_keys():
    """Return objects that are not among the keys from 1 to 40."""
    return [None, [], [1], (), 0, 41, 777, -1, LIMIT] + other_objects()


def raised(call, *args, **named):
    """Return the error that a call raises, None if it raises none."""
    try:
        call(*args, **named)
    except Exception as error:
        return error
    return None
