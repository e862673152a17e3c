"""Partly observed trees: observations tell of some keys which one is above which, or is not."""

from insertionorders.counting import choose
from insertionorders.errors import InvalidObservations, InvalidSearch, InvalidSize, Unsatisfiable
from insertionorders.orders import MAX_KEYS, ascending_until, check_amount, check_keys, check_two_known, is_key
from insertionorders.orders import is_within
from insertionorders.trees import tree_after

MAX_OBSERVATIONS = 1600
MAX_ASKED = 10


def fitting_trees(keys, observations, *, max_height=None):
    """Return how many trees of the keys, of at most this height, fit all observations."""
    check_fitting(keys, observations, max_height)
    return count_trees(keys, observations, max_height)


def fitting_orders(keys, observations, *, max_height=None):
    """Return how many orders of the keys build trees, of at most this height, that fit all observations."""
    check_fitting(keys, observations, max_height)
    # The orders of the two parts beside a root are merged in all ways.
    return count_fitting(keys, observations, max_height, lambda left, right: choose(left + right, left))


def fitting_tree(keys, observations):
    """Return a tree of the keys that fits all observations, None if there is none."""
    check_observations(keys, observations)
    roots, barren = roots_found(keys, observations)
    return None if barren else tree_after(roots)


def search_observations(keys, path):
    """Return the observations of a search that met exactly the keys of the path, in this order."""
    check_keys(keys)
    check_search(keys, path)
    met = [(key, following, True) for key, following in zip(path, path[1:])]
    return met + [(key, path[-1], False) for key in keys if key not in path]


def answer(keys, observations, upper, lower):
    """Return whether a key is above another one in all fitting trees, in none of them, or in some."""
    check_observations(keys, observations)
    check_two_known(keys, upper, lower)
    check_satisfiable(keys, observations)
    if not is_fitted(keys, observations + [(upper, lower, True)]):
        return "never"
    if not is_fitted(keys, observations + [(upper, lower, False)]):
        return "always"
    return "open"


def clash(keys, observations):
    """Return positions of observations that no tree fits, and of which none can be left out; None if a tree fits."""
    check_observations(keys, observations)
    roots, barren = roots_found(keys, observations)
    if not barren:
        return None
    # Observations against all keys of the barren part leave no tree; then what is not needed is left out.
    needed = positions_against(observations, barren)
    for position in list(needed):
        fewer = [other for other in needed if other != position]
        if not is_fitted(keys, [observations[other] for other in fewer]):
            needed = fewer
    return needed


def is_clash(keys, observations, candidate):
    """Return whether any object is a list of positions as clash returns it."""
    check_observations(keys, observations)
    # As many observations as a barren part has keys leave no tree. So from more than that one can be left out.
    if not isinstance(candidate, list) or len(candidate) > len(keys):
        return False
    if ascending_until(candidate, 0, len(observations) - 1) < len(candidate):
        return False
    chosen = [observations[position] for position in candidate]
    if is_fitted(keys, chosen):
        return False
    return all([is_fitted(keys, chosen[:at] + chosen[at + 1:]) for at in range(len(chosen))])


def best_question(keys, observations):
    """Return the pair with an open answer for which the worse answer leaves the fewest trees, None without any."""
    check_observations(keys, observations)
    check_amount(len(keys), MAX_ASKED)
    check_satisfiable(keys, observations)
    count = count_trees(keys, observations, None)
    rated = []
    for upper, lower in [(upper, lower) for upper in keys for lower in keys if upper != lower]:
        agreeing = count_trees(keys, observations + [(upper, lower, True)], None)
        if 0 < agreeing < count:
            rated.append((max(agreeing, count - agreeing), (upper, lower)))
    return min(rated)[1] if rated else None


def check_observations(keys, observations):
    """Raise an error unless the first object is a list of keys and the second one a list of observations."""
    check_keys(keys)
    if not isinstance(observations, list) or len(observations) > MAX_OBSERVATIONS:
        raise InvalidObservations(None)
    for position, observation in enumerate(observations):
        if not is_observation(keys, observation):
            raise InvalidObservations(position)


def is_observation(keys, candidate):
    """Return whether any object is a tuple of two different ones of the keys and a bool."""
    if not isinstance(candidate, tuple) or len(candidate) != 3:
        return False
    upper, lower, truth = candidate
    if not is_key(upper) or not is_key(lower) or not isinstance(truth, bool):
        return False
    return upper != lower and upper in keys and lower in keys


def check_fitting(keys, observations, max_height):
    """Raise an error unless keys, observations and a greatest height, or None, are given."""
    check_observations(keys, observations)
    if max_height is not None and not is_within(max_height, 0, MAX_KEYS):
        raise InvalidSize(max_height)


def check_search(keys, path):
    """Raise InvalidSearch for any object that is not a list of at least one of the keys, none of them twice."""
    if not isinstance(path, list) or not path:
        raise InvalidSearch(None)
    for position, key in enumerate(path):
        if not is_key(key) or key not in keys or key in path[:position]:
            raise InvalidSearch(position)


def check_satisfiable(keys, observations):
    """Raise Unsatisfiable if no tree fits the observations."""
    if not is_fitted(keys, observations):
        raise Unsatisfiable()


def is_fitted(keys, observations):
    """Return whether some tree of the keys fits valid observations."""
    roots, barren = roots_found(keys, observations)
    return not barren


def roots_found(keys, observations):
    """Return an order of a fitting tree, and the keys of a barren part, of which none can be the root.

    Without a barren part the second list is empty; with one the first list ends early.
    """
    ends = ends_of_freedom(keys, observations)
    roots = []
    parts = [(0, len(keys))]
    while parts:
        begin, end = parts.pop()
        free = free_roots(ends, begin, end)
        if free:
            # Whichever free root is taken: if a tree fits, so do the trees that its order builds of both sides.
            roots.append(keys[free[0]])
            parts += [(begin, free[0]), (free[0] + 1, end)]
        elif begin < end:
            return (roots, keys[begin:end])
    return (roots, [])


def ends_of_freedom(keys, observations):
    """Return a list for each key: for each place to begin at, the last end of a part whose root the key can be.

    Longer parts of neighbouring keys contain both keys of an observation that bars it as the root.
    """
    places = {key: place for place, key in enumerate(keys)}
    ends = [[len(keys)] * len(keys) for key in keys]
    for upper, lower, truth in observations:
        low = places[min(upper, lower)]
        high = places[max(upper, lower)]
        for place in range(low, high + 1):
            # The first root that is one of both keys or between them tells which of them is above the other.
            if truth != (keys[place] == upper):
                ends[place][low] = min(ends[place][low], high)
    return [least_from(row) for row in ends]


def least_from(row):
    """Return the list of the least number from each position on."""
    least = list(row)
    for at in range(len(row) - 2, -1, -1):
        least[at] = min(least[at], least[at + 1])
    return least


def free_roots(ends, begin, end):
    """Return the places of the keys that no observation bars as the root of a part."""
    return [place for place in range(begin, end) if end <= ends[place][begin]]


def positions_against(observations, part):
    """Return an ascending list of positions of observations that bar all keys of a barren part as its root."""
    positions = []
    free = part
    for position, (upper, lower, truth) in enumerate(observations):
        low = min(upper, lower)
        high = max(upper, lower)
        if part[0] <= low and high <= part[-1]:
            fewer = [key for key in free if not low <= key <= high or truth == (key == upper)]
            if len(fewer) < len(free):
                positions.append(position)
                free = fewer
    return positions


def count_trees(keys, observations, max_height):
    """Return how many trees of the keys, of at most this height, fit valid observations."""
    return count_fitting(keys, observations, max_height, lambda left, right: 1)


def count_fitting(keys, observations, max_height, merges):
    """Return the number of fitting trees, or of their orders, as merges(left, right) counts those of two parts."""
    ends = ends_of_freedom(keys, observations)
    size = len(keys)
    counts = {(at, at): [1] for at in range(size + 1)}
    for length in range(1, size + 1):
        for begin in range(size - length + 1):
            counts[(begin, begin + length)] = counts_by_height(ends, counts, begin, begin + length, merges)
    found = counts[(0, size)]
    return found[size if max_height is None else min(max_height, size)]


def counts_by_height(ends, counts, begin, end, merges):
    """Return the list of the numbers of fitting trees of a part by their greatest height, from those of its parts."""
    found = [0] * (end - begin + 1)
    for root in free_roots(ends, begin, end):
        left = counts[(begin, root)]
        right = counts[(root + 1, end)]
        ways = merges(root - begin, end - root - 1)
        for height in range(end - begin):
            # A part has no tree that is higher than its number of keys.
            found[height + 1] += ways * left[min(height, root - begin)] * right[min(height, end - root - 1)]
    return found
