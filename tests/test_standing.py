"""Point [17]: what facts tell about the trees of the orders that keep them."""

import itertools
import unittest

from insertionorders.errors import Contradiction, InvalidFacts, InvalidKeys, UnknownKey
from insertionorders.facts import is_standing, standing, sure_pairs
from tests.support import Awkward, keeping, keeps, linked, linked_above, not_keys, other_objects, raised, shuffled
from tests.support import some_facts, unknown_keys


def samples():
    """Return pairs of up to six keys and facts that can be kept."""
    found = []
    for size in range(2, 7):
        keys = list(range(0, size * 3, 3))
        found += [(keys, some_facts(keys, seed, amount)) for seed in range(4) for amount in range(0, 9)]
    return found


def many():
    """Return pairs of up to thirty keys and up to sixty facts."""
    return [(list(range(size)), some_facts(range(size), size, amount)) for size in (20, 30) for amount in (5, 30, 60)]


def others_in_range(keys, upper, lower):
    return [key for key in keys if min(upper, lower) <= key <= max(upper, lower) and key != upper]


def above_in_all(keys, facts):
    """Return, for each pair of keys, the list of whether the first one is above the second one, order by order."""
    trees = [linked(order) for order in keeping(keys, facts)]
    return {pair: [linked_above(nodes, *pair) for nodes in trees] for pair in itertools.permutations(keys, 2)}


class Standing(unittest.TestCase):
    def check_chain(self, facts, begin, end, chain):
        self.assertIs(chain.__class__, list)
        self.assertGreaterEqual(len(chain), 2)
        self.assertEqual((chain[0], chain[-1]), (begin, end))
        self.assertTrue(all(pair in facts for pair in zip(chain, chain[1:])))

    def check_order(self, keys, facts, upper, lower, order, above):
        self.assertIs(order.__class__, list)
        self.assertEqual(sorted(order), keys)
        self.assertTrue(keeps(order, facts))
        self.assertIs(linked_above(linked(order), upper, lower), above)

    def check_result(self, keys, facts, upper, lower):
        result = standing(keys, facts, upper, lower)
        self.assertIs(result.__class__, tuple)
        others = others_in_range(keys, upper, lower)
        if result[0] == "always":
            word, chains = result
            self.assertIs(chains.__class__, list)
            self.assertEqual(len(chains), len(others))
            for other, chain in zip(others, chains):
                self.check_chain(facts, upper, other, chain)
        elif result[0] == "never":
            word, chain = result
            self.assertIn(chain[0], others)
            self.check_chain(facts, chain[0], upper, chain)
        else:
            word, yes, no = result
            self.assertEqual(word, "open")
            self.check_order(keys, facts, upper, lower, yes, True)
            self.check_order(keys, facts, upper, lower, no, False)
        self.assertIs(is_standing(keys, facts, upper, lower, result), True)
        return result[0]

    def test_against_all_orders(self):
        words = set()
        for keys, facts in samples():
            for (upper, lower), truths in above_in_all(keys, facts).items():
                word = self.check_result(keys, facts, upper, lower)
                expected = "always" if all(truths) else "open" if any(truths) else "never"
                self.assertEqual(word, expected)
                words.add(word)
        self.assertEqual(words, {"always", "open", "never"})

    def test_many_keys(self):
        words = []
        for keys, facts in many():
            for upper, lower in itertools.permutations(keys[::3], 2):
                words.append(self.check_result(keys, facts, upper, lower))
        self.assertEqual(set(words), {"always", "open", "never"})

    def test_a_whole_order(self):
        order = shuffled(range(30), 8)
        nodes = linked(order)
        facts = list(zip(order, order[1:]))
        for upper, lower in itertools.permutations(order, 2):
            word = "always" if linked_above(nodes, upper, lower) else "never"
            self.assertEqual(self.check_result(sorted(order), facts, upper, lower), word)

    def test_chains_of_all_keys(self):
        keys = list(range(40))
        facts = list(zip(keys, keys[1:]))
        self.assertEqual(self.check_result(keys, facts, 0, 39), "always")
        self.assertEqual(standing(keys, facts, 0, 39)[1][-1], keys)
        self.assertEqual(self.check_result(keys, facts, 39, 0), "never")
        self.assertIs(is_standing(keys, facts, 39, 0, ("never", keys)), True)

    def test_arguments_stay(self):
        keys, facts = [1, 2, 3], [(2, 1)]
        for pair in itertools.permutations(keys, 2):
            result = standing(keys, facts, *pair)
            is_standing(keys, facts, *pair, result)
            for part in result[1:]:
                part.clear()
            self.assertNotEqual(standing(keys, facts, *pair), result)
        self.assertEqual((keys, facts), ([1, 2, 3], [(2, 1)]))

    def test_no_list_twice(self):
        keys = list(range(10))
        facts = [(5, 4), (4, 3), (4, 6), (6, 7), (5, 8)]
        for pair in itertools.permutations(keys, 2):
            result = standing(keys, facts, *pair)
            lists = [part for part in result[1:]] + [one for one in result[1] if isinstance(one, list)]
            self.assertEqual(len({id(one) for one in lists}), len(lists))


class SurePairs(unittest.TestCase):
    def test_against_all_orders(self):
        for keys, facts in samples() + [([], []), ([1], [])]:
            expected = sorted(pair for pair, truths in above_in_all(keys, facts).items() if all(truths))
            self.assertEqual(sure_pairs(keys, facts), expected)

    def test_many_keys(self):
        for keys, facts in many():
            pairs = sure_pairs(keys, facts)
            words = {pair: standing(keys, facts, *pair)[0] for pair in itertools.permutations(keys, 2)}
            self.assertEqual(pairs, sorted(pair for pair in words if words[pair] == "always"))

    def test_forty_keys(self):
        order = shuffled(range(40), 2)
        nodes = linked(order)
        expected = [pair for pair in itertools.permutations(range(40), 2) if linked_above(nodes, *pair)]
        self.assertEqual(sure_pairs(sorted(order), list(zip(order, order[1:]))), expected)
        self.assertEqual(sure_pairs(sorted(order), []), [])


def changed_results(result):
    """Return objects that differ a little from a result and are none."""
    parts = result[1:]
    words = [word for word in ("always", "never", "open", "Always", "", b"always", None) if word != result[0]]
    found = [(word, *parts) for word in words]
    found += [list(result), result[:-1], result + ([],), result + (None,), (result,)]
    found += [parts, (), (result[0],), (result[0], result), [result]]
    for at, part in enumerate(parts):
        # The rest of a chain that tells "never" may tell so, too.
        others = [part[1:]] if result[0] != "never" else []
        for other in others + [tuple(part), None, [], part + [None], part[:-1], part[::-1] + part[:1], {1: part}]:
            found.append(result[:at + 1] + (other,) + result[at + 2:])
    return found


class IsStanding(unittest.TestCase):
    def test_changed_results(self):
        for keys, facts in samples()[::5] + many()[::2]:
            for upper, lower in list(itertools.permutations(keys, 2))[::4]:
                result = standing(keys, facts, upper, lower)
                before = repr(result)
                for candidate in changed_results(result):
                    with self.subTest(result=result, candidate=candidate):
                        self.assertIs(is_standing(keys, facts, upper, lower, candidate), False)
                self.assertIs(is_standing(keys, facts, upper, lower, result), True)
                self.assertEqual(repr(result), before)

    def test_every_chain(self):
        keys, facts = [1, 2, 3, 4], [(4, 3), (3, 2), (2, 1), (4, 2), (3, 1)]
        chains = {1: ([4, 3, 2, 1], [4, 2, 1], [4, 3, 1]), 2: ([4, 3, 2], [4, 2]), 3: ([4, 3],)}
        for some in itertools.product(*chains.values()):
            self.assertIs(is_standing(keys, facts, 4, 1, ("always", list(some))), True)
            self.assertIs(is_standing(keys, facts, 4, 1, ("always", list(some)[::-1])), False)
            self.assertIs(is_standing(keys, facts, 4, 1, ("always", list(some)[1:])), False)
            self.assertIs(is_standing(keys, facts, 4, 1, ("always", list(some) + [[4, 3]])), False)
            self.assertIs(is_standing(keys, facts, 4, 1, ("always", tuple(some))), False)
            self.assertIs(is_standing(keys, facts, 4, 1, ("always", [tuple(one) for one in some])), False)
        for wrong in ([4, 1], [4], [1], [], [3, 1], [4, 3], [4, 2, 3, 1], [4, 3, 2, 1, 1], [4, 4, 3, 1], [2, 4, 3, 1]):
            self.assertIs(is_standing(keys, facts, 4, 1, ("always", [wrong, [4, 2], [4, 3]])), False)
        for other, some in chains.items():
            for chain in some:
                self.assertIs(is_standing(keys, facts, other, 4, ("never", chain)), True)
                self.assertIs(is_standing(keys, facts, other, 4, ("never", chain[::-1])), False)
                self.assertIs(is_standing(keys, facts, 4, other, ("never", chain)), False)

    def test_chains_to_never_come_from_the_range(self):
        keys, facts = [1, 2, 3, 4, 5], [(5, 2), (3, 2)]
        self.assertIs(is_standing(keys, facts, 2, 4, ("never", [3, 2])), True)
        self.assertIs(is_standing(keys, facts, 2, 4, ("never", [5, 2])), False)
        self.assertIs(is_standing(keys, facts, 2, 5, ("never", [5, 2])), True)
        self.assertIs(is_standing(keys, facts, 2, 1, ("never", [3, 2])), False)
        self.assertIs(is_standing(keys, facts, 2, 4, ("never", [2, 2])), False)

    def test_every_pair_of_orders(self):
        keys, facts = [1, 2, 3], [(3, 1)]
        orders = [list(order) for order in itertools.permutations(keys)]
        for upper, lower in itertools.permutations(keys, 2):
            for yes, no in itertools.product(orders, repeat=2):
                expected = keeps(yes, facts) and keeps(no, facts)
                expected = expected and linked_above(linked(yes), upper, lower)
                expected = expected and not linked_above(linked(no), upper, lower)
                self.assertIs(is_standing(keys, facts, upper, lower, ("open", yes, no)), expected)

    def test_true_in_place_of_1(self):
        keys = [0, 1, 2]
        self.assertIs(is_standing(keys, [(1, 2)], 1, 2, ("always", [[1, 2]])), True)
        self.assertIs(is_standing(keys, [(1, 2)], 1, 2, ("always", [[True, 2]])), False)
        self.assertIs(is_standing(keys, [(1, 2)], 2, 1, ("never", [1, 2])), True)
        self.assertIs(is_standing(keys, [(1, 2)], 2, 1, ("never", [True, 2])), False)
        self.assertIs(is_standing(keys, [(2, 1), (1, 0)], 2, 0, ("always", [[2, True, 0], [2, 1]])), False)
        self.assertIs(is_standing(keys, [(2, 1), (1, 0)], 2, 0, ("always", [[2, 1, False], [2, 1]])), False)
        self.assertIs(is_standing(keys, [], 1, 2, ("open", [1, 2, 0], [2, 1, 0])), True)
        for wrong in ([True, 2, 0], [1, 2, False], [1, 2.0, 0], [1, 2], [1, 2, 0, 0], [1, 2, 2], [1, 2, 3], (1, 2, 0)):
            self.assertIs(is_standing(keys, [], 1, 2, ("open", wrong, [2, 1, 0])), False)
        for wrong in ([2, True, 0], [2, 1, False], [2, 1.0, 0], [2, 1], [2, 1, 1], (2, 1, 0), [2, 1, [0]]):
            self.assertIs(is_standing(keys, [], 1, 2, ("open", [1, 2, 0], wrong)), False)

    def test_objects_of_other_kinds(self):
        keys, facts = [1, 2, 3], [(1, 2)]
        right = {(1, 2): ("always", [[1, 2]]), (2, 1): ("never", [1, 2]), (2, 3): ("open", [1, 2, 3], [3, 1, 2])}
        for pair, result in right.items():
            self.assertIs(is_standing(keys, facts, *pair, result), True)
            for other in [None, [], ()] + other_objects():
                with self.subTest(pair=pair, kind=other.__class__):
                    self.assertIs(is_standing(keys, facts, *pair, other), False)
                    self.assertIs(is_standing(keys, facts, *pair, (other,)), False)
                    self.assertIs(is_standing(keys, facts, *pair, (other, *result[1:])), False)
                    self.assertIs(is_standing(keys, facts, *pair, (result[0], other, *result[2:])), False)
                    self.assertIs(is_standing(keys, facts, *pair, (result[0], [other], *result[2:])), False)
                    self.assertIs(is_standing(keys, facts, *pair, (*result[:-1], other)), False)
                    self.assertIs(is_standing(keys, facts, *pair, (*result[:-1], [1, 2, other])), False)
                    self.assertIs(is_standing(keys, facts, *pair, (*result[:-1], [[1, other]])), False)

    def test_long_candidates(self):
        keys, facts = [1, 2, 3], [(1, 2)]
        for part in ([1, 2] * 50000, [Awkward()] * 100000, [1] * 100000, [[1, 2]] * 100000):
            self.assertIs(is_standing(keys, facts, 1, 2, ("always", part)), False)
            self.assertIs(is_standing(keys, facts, 1, 2, ("always", [part])), False)
            self.assertIs(is_standing(keys, facts, 2, 1, ("never", part)), False)
            self.assertIs(is_standing(keys, facts, 2, 3, ("open", part, part)), False)


class Errors(unittest.TestCase):
    def refused(self, kind, field, value, *arguments):
        for function, more in ((standing, ()), (is_standing, (None,))):
            error = raised(function, *arguments, *more)
            with self.subTest(function=function.__name__, kinds=[one.__class__ for one in arguments]):
                self.assertIs(error.__class__, kind)
                self.assertEqual(getattr(error, field), value)

    def test_keys_and_facts_first(self):
        for wrong, position in not_keys():
            self.refused(InvalidKeys, "position", position, wrong, None, None, None)
        self.refused(InvalidFacts, "position", 1, [1, 2], [(1, 2), (1, 3)], 3, 3)
        self.refused(InvalidFacts, "position", None, [1, 2], ((1, 2),), 3, 3)
        self.refused(Contradiction, "chain", [1, 2, 1], [1, 2], [(1, 2), (2, 1)], 3, 3)

    def test_unknown_keys(self):
        keys = list(range(1, 41))
        for key in unknown_keys():
            for function, more in ((standing, ()), (is_standing, (None,))):
                for pair in ((key, 1), (1, key), (key, key), (key, None)):
                    error = raised(function, keys, [(1, 2)], *pair, *more)
                    with self.subTest(function=function.__name__, kind=key.__class__):
                        self.assertIs(error.__class__, UnknownKey)
                        self.assertIs(error.key, key)

    def test_first_before_second(self):
        self.refused(UnknownKey, "key", 7, [1, 2], [], 7, 8)
        self.refused(UnknownKey, "key", 8, [1, 2], [], 1, 8)
        self.refused(UnknownKey, "key", 7, [1, 2], [], 7, 7)

    def test_equal_keys(self):
        self.refused(UnknownKey, "key", 2, [1, 2], [], 2, 2)
        self.refused(UnknownKey, "key", 1, [1], [], 1, 1)
        self.refused(UnknownKey, "key", 1, [], [], 1, 1)
