"""Partly known orders: facts tell of some keys which one is inserted before which."""

from insertionorders.ancestry import is_above
from insertionorders.errors import Contradiction, InvalidFacts
from insertionorders.orders import MAX_KEYS, check_amount, check_keys, check_two_known, is_key
from insertionorders.trees import check_tree, keys_in

MAX_FACTS = 200
MAX_COUNTED = 12


def check_facts(keys, facts):
    """Raise an error unless the first object is a list of keys and the second one a list of facts that can be kept."""
    check_keys(keys)
    check_facts_about(keys, facts)


def kept_order(keys, facts):
    """Return the smallest order that keeps the facts."""
    check_facts(keys, facts)
    return smallest_order(keys, facts)


def standing(keys, facts, upper, lower):
    """Return whether a key is above another one in all trees of orders that keep the facts, in none, or in some."""
    check_standing(keys, facts, upper, lower)
    others = others_between(keys, upper, lower)
    # A key can come before others exactly if none of them has a chain to it.
    for other in others:
        chain = shortest_chain(keys, facts, other, upper)
        if chain is not None:
            return ("never", chain)
    chains = [shortest_chain(keys, facts, upper, other) for other in others]
    if None in chains:
        free = others[chains.index(None)]
        return ("open", early_order(keys, facts, upper), early_order(keys, facts, free))
    return ("always", chains)


def is_standing(keys, facts, upper, lower, candidate):
    """Return whether any object is a result of standing for these arguments."""
    check_standing(keys, facts, upper, lower)
    if not isinstance(candidate, tuple) or not candidate or not isinstance(candidate[0], str):
        return False
    others = others_between(keys, upper, lower)
    if candidate[0] == "always" and len(candidate) == 2:
        return are_chains(facts, upper, others, candidate[1])
    if candidate[0] == "never" and len(candidate) == 2:
        return any([is_chain(facts, other, upper, candidate[1]) for other in others])
    if candidate[0] == "open" and len(candidate) == 3:
        orders = candidate[1:]
        if not all([is_keeping(keys, facts, order) for order in orders]):
            return False
        return [is_above(order, upper, lower) for order in orders] == [True, False]
    return False


def sure_pairs(keys, facts):
    """Return the ascending list of the pairs of keys of which the first one is above the second one in any case."""
    check_facts(keys, facts)
    following = {key: keys_after(keys, facts, key) for key in keys}
    pairs = [(upper, lower) for upper in keys for lower in keys if upper != lower]
    return [(upper, lower) for upper, lower in pairs
            if all([other in following[upper] for other in others_between(keys, upper, lower)])]


def keeping_order(facts, tree):
    """Return the smallest order of the tree that keeps the facts, None if there is none."""
    check_tree(tree)
    keys = keys_in(tree)
    check_facts_about(keys, facts)
    return smallest_order(keys, facts + [(parent, key) for key, parent in tree if parent is not None])


def count_keeping(keys, facts):
    """Return how many orders of the keys keep the facts."""
    check_facts(keys, facts)
    check_amount(len(keys), MAX_COUNTED)
    return counts_by_worth(keys, facts, 0, lambda inserted, place: 0)[0]


def check_facts_about(keys, facts):
    """Raise an error unless the object is a list of facts about valid keys that do not contradict each other."""
    if not isinstance(facts, list) or len(facts) > MAX_FACTS:
        raise InvalidFacts(None)
    for position, fact in enumerate(facts):
        if not is_fact(keys, fact):
            raise InvalidFacts(position)
    cycle = shortest_cycle(keys, facts)
    if cycle is not None:
        raise Contradiction(cycle)


def is_fact(keys, candidate):
    """Return whether any object is a tuple of two different ones of the keys."""
    if not isinstance(candidate, tuple) or len(candidate) != 2:
        return False
    earlier, later = candidate
    return is_key(earlier) and is_key(later) and earlier != later and earlier in keys and later in keys


def check_standing(keys, facts, upper, lower):
    """Raise an error unless facts about keys and two different ones of the keys are given."""
    check_facts(keys, facts)
    check_two_known(keys, upper, lower)


def others_between(keys, upper, lower):
    """Return the ascending list of the keys from one to the other, without the upper one."""
    low = min(upper, lower)
    high = max(upper, lower)
    return [key for key in keys if low <= key <= high and key != upper]


def chain_steps(keys, facts, begin):
    """Return a dict of the key before each key on a shortest chain from the beginning to it."""
    following = {key: [] for key in keys}
    for earlier, later in facts:
        following[earlier].append(later)
    steps = {}
    row = [begin]
    while row:
        further = []
        for key in row:
            for later in following[key]:
                if later not in steps:
                    steps[later] = key
                    further.append(later)
        row = further
    return steps


def shortest_chain(keys, facts, begin, end):
    """Return a chain of the fewest keys from one key to another or the same one, None if there is none."""
    steps = chain_steps(keys, facts, begin)
    if end not in steps:
        return None
    chain = [end, steps[end]]
    while chain[-1] != begin:
        chain.append(steps[chain[-1]])
    return chain[::-1]


def shortest_cycle(keys, facts):
    """Return a chain of the fewest keys that begins and ends with the same key, None if there is none."""
    cycles = [shortest_chain(keys, facts, key, key) for key in keys]
    found = [cycle for cycle in cycles if cycle is not None]
    return min(found, key=len) if found else None


def keys_after(keys, facts, key):
    """Return the list of the keys to which a chain leads from the key."""
    return list(chain_steps(keys, facts, key))


def keys_before(keys, facts, key):
    """Return the list of the keys from which a chain leads to the key."""
    return keys_after(keys, [(later, earlier) for earlier, later in facts], key)


def smallest_order(keys, pairs):
    """Return the smallest order in which the first key of each pair comes before the second, None if there is none."""
    order = []
    left = list(keys)
    while left:
        waiting = [later for earlier, later in pairs if earlier in left]
        free = [key for key in left if key not in waiting]
        if not free:
            return None
        order.append(free[0])
        left.remove(free[0])
    return order


def early_order(keys, facts, key):
    """Return an order that keeps the facts, in which only what must comes before the key."""
    order = smallest_order(keys, facts)
    needed = keys_before(keys, facts, key) + [key]
    return [other for other in order if other in needed] + [other for other in order if other not in needed]


def is_chain(facts, begin, end, candidate):
    """Return whether any object is a chain from one key to another."""
    # Facts that can be kept make no chain with a key twice, so none that is longer than all keys.
    if not isinstance(candidate, list) or not 2 <= len(candidate) <= MAX_KEYS:
        return False
    if not all([is_key(key) for key in candidate]) or candidate[0] != begin or candidate[-1] != end:
        return False
    return all([pair in facts for pair in zip(candidate, candidate[1:])])


def are_chains(facts, begin, ends, candidate):
    """Return whether any object is a list of a chain from the beginning to each end."""
    if not isinstance(candidate, list) or len(candidate) != len(ends):
        return False
    return all([is_chain(facts, begin, end, chain) for end, chain in zip(ends, candidate)])


def is_keeping(keys, facts, candidate):
    """Return whether any object is an order of all the keys that keeps the facts."""
    if not isinstance(candidate, list) or not all([is_key(key) for key in candidate]) or sorted(candidate) != keys:
        return False
    return all([candidate.index(earlier) < candidate.index(later) for earlier, later in facts])


def counts_by_worth(keys, facts, most, worth):
    """Return the list of the numbers of orders that keep the facts, by what they are worth, from 0 to most.

    An order is worth the sum of what its insertions are worth: worth(inserted, place) for the key at a place,
    where inserted has a bit for the place of each key that is inserted before.
    """
    needed = [sum([1 << keys.index(other) for other in keys_before(keys, facts, key)]) for key in keys]
    counts = [[0] * (most + 1) for inserted in range(1 << len(keys))]
    counts[0][0] = 1
    for inserted in range(1 << len(keys)):
        for place, before in enumerate(needed):
            if (inserted >> place) & 1 == 0 and inserted & before == before:
                add_moved(counts[inserted | (1 << place)], counts[inserted], worth(inserted, place))
    return counts[-1]


def add_moved(counts, others, by):
    """Add other counts to the counts, each of them so many positions further on."""
    for at, count in enumerate(others[:len(counts) - by]):
        counts[at + by] += count
