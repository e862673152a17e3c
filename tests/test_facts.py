"""Points [16] and [18]: facts, the orders that keep them, and how many there are."""

import itertools
import math
import unittest

from insertionorders.errors import Contradiction, InvalidFacts, InvalidKeys, InvalidTree, TooLarge
from insertionorders.facts import check_facts, count_keeping, kept_order, keeping_order, standing, sure_pairs
from insertionorders.profiles import kept_depths, kept_heights, kept_totals
from insertionorders.trees import build
from tests.support import all_trees, keeping, keeps, linked_pairs, long_orders, not_keys, not_trees
from tests.support import orders_by_tree, other_objects, other_order, raised, shuffled, some_facts

WITH_FACTS = (check_facts, kept_order, sure_pairs, count_keeping, kept_totals, kept_heights)


def all_fact_lists(keys):
    """Return every list of different facts about the keys, in one order of the facts."""
    pairs = list(itertools.permutations(keys, 2))
    return [list(some) for size in range(len(pairs) + 1) for some in itertools.combinations(pairs, size)]


def samples():
    """Return pairs of up to six keys and facts that can be kept."""
    found = [(keys, facts) for keys in ([], [7], [1, 2], [1, 2, 3]) for facts in all_fact_lists(keys)
             if keeping(keys, facts)]
    for size in (4, 5, 6):
        keys = list(range(-3, size * 2 - 3, 2))
        found += [(keys, some_facts(keys, seed, amount)) for seed in range(6) for amount in range(0, 10)]
    return found


def not_facts():
    """Return pairs of an object that is not a list of facts about 1, 2 and 3, and the position in its error."""
    others = [None] + other_objects()
    wrong = [(other, None) for other in [(), ((1, 2),), {(1, 2)}] + others if not isinstance(other, list)]
    wrong += [([(1, 2)] * 201, None), ([None] * 201, None)]
    elements = [1, (1,), (1, 2, 3), (1, 1), (2, 4), (0, 1), [1, 2], (True, 2), (2, True), (1, 2.0), ((1, 2),), "12"]
    elements += [other for other in others if not (isinstance(other, tuple) and len(other) == 2)]
    elements += [(1, other) for other in others] + [(other, 1) for other in others]
    for element in elements:
        wrong += [([element], 0), ([(1, 2), (3, 1), element], 2), ([(1, 2), element, None], 1)]
    return wrong


class Errors(unittest.TestCase):
    def refused(self, kind, field, value, function, *arguments):
        error = raised(function, *arguments)
        with self.subTest(function=function.__name__, kinds=[one.__class__ for one in arguments]):
            self.assertIs(error.__class__, kind)
            self.assertEqual(getattr(error, field), value)

    def test_keys_first(self):
        for wrong, position in not_keys():
            for function in WITH_FACTS:
                for facts in ([], None, [(1, 2), (2, 1)]):
                    self.refused(InvalidKeys, "position", position, function, wrong, facts)
            self.refused(InvalidKeys, "position", position, standing, wrong, None, None, None)
            self.refused(InvalidKeys, "position", position, kept_depths, wrong, None, None)

    def test_then_facts(self):
        for wrong, position in not_facts():
            for function in WITH_FACTS:
                self.refused(InvalidFacts, "position", position, function, [1, 2, 3], wrong)
            self.refused(InvalidFacts, "position", position, standing, [1, 2, 3], wrong, None, None)
            self.refused(InvalidFacts, "position", position, kept_depths, [1, 2, 3], wrong, None)

    def test_two_hundred_facts(self):
        for function in WITH_FACTS:
            self.assertIsNone(raised(function, [1, 2, 3], [(1, 2)] * 200))
            self.refused(InvalidFacts, "position", None, function, [1, 2, 3], [(1, 2)] * 201)
        keys = list(range(40))
        self.assertIsNone(check_facts(keys, some_facts(keys, 1, 200)))
        self.refused(InvalidFacts, "position", None, check_facts, keys, some_facts(keys, 1, 201))
        self.refused(InvalidFacts, "position", 199, check_facts, keys, some_facts(keys, 1, 199) + [(1, 40)])

    def test_facts_before_contradiction(self):
        self.refused(InvalidFacts, "position", 2, check_facts, [1, 2], [(1, 2), (2, 1), (1, 1)])
        self.refused(InvalidFacts, "position", 0, check_facts, [], [(1, 2)])

    def test_returns_none(self):
        for keys, facts in samples():
            before = list(keys), list(facts)
            self.assertIsNone(check_facts(keys, facts))
            self.assertEqual((keys, facts), before)


def fewest_in_a_cycle(keys, facts):
    """Return the fewest keys of a chain that ends where it begins, found through all lists of different keys."""
    for size in range(2, len(keys) + 1):
        for some in itertools.permutations(keys, size):
            if all(pair in facts for pair in zip(some, some[1:] + some[:1])):
                return size + 1
    return None


class Contradictions(unittest.TestCase):
    def check_chain(self, keys, facts, fewest):
        error = raised(check_facts, keys, facts)
        self.assertIs(error.__class__, Contradiction)
        self.assertIs(error.chain.__class__, list)
        self.assertEqual(error.chain[0], error.chain[-1])
        self.assertEqual(len(error.chain), fewest)
        self.assertTrue(all(pair in facts for pair in zip(error.chain, error.chain[1:])))

    def test_all_facts_about_few_keys(self):
        for keys in ([], [1], [1, 2], [1, 2, 3], [1, 2, 3, 4]):
            for facts in all_fact_lists(keys):
                fewest = fewest_in_a_cycle(keys, facts)
                if fewest is None:
                    self.assertIsNone(check_facts(keys, facts))
                else:
                    self.check_chain(keys, facts, fewest)

    def test_five_keys(self):
        pairs = list(itertools.permutations(range(5), 2))
        for seed in range(200):
            facts = shuffled(pairs, seed)[:4 + seed % 6]
            fewest = fewest_in_a_cycle(range(5), facts)
            if fewest is not None:
                self.check_chain(list(range(5)), facts, fewest)

    def test_long_cycles(self):
        for size in range(2, 41):
            order = shuffled(range(size), size)
            facts = list(zip(order, order[1:] + order[:1]))
            self.check_chain(list(range(size)), facts, size + 1)
            self.check_chain(list(range(size)), shuffled(facts, 3), size + 1)
            if size > 5:
                self.check_chain(list(range(size)), facts + [(order[4], order[1])], 5)

    def test_every_function_raises_it(self):
        keys, facts = [1, 2, 3], [(1, 2), (2, 3), (3, 1)]
        calls = [(function, keys, facts) for function in WITH_FACTS]
        calls += [(standing, keys, facts, None, None), (kept_depths, keys, facts, None)]
        calls += [(keeping_order, facts, build(keys))]
        for function, *arguments in calls:
            error = raised(function, *arguments)
            with self.subTest(function=function.__name__):
                self.assertIs(error.__class__, Contradiction)
                self.assertEqual((len(error.chain), len(set(error.chain))), (4, 3))

    def test_chains_are_new(self):
        facts = [(1, 2), (2, 1)]
        raised(check_facts, [1, 2], facts).chain.clear()
        self.assertEqual(len(raised(check_facts, [1, 2], facts).chain), 3)
        self.assertEqual(facts, [(1, 2), (2, 1)])


class KeptOrder(unittest.TestCase):
    def test_against_all_orders(self):
        for keys, facts in samples():
            self.assertEqual(kept_order(keys, facts), keeping(keys, facts)[0])

    def test_four_keys(self):
        keys = [1, 2, 3, 4]
        orders = keeping(keys, [])
        for facts in all_fact_lists(keys)[::3]:
            found = [order for order in orders if keeps(order, facts)]
            if found:
                self.assertEqual(kept_order(keys, facts), found[0])

    def test_all_facts_of_an_order(self):
        for size in (0, 1, 2, 10, 20):
            order = shuffled(range(size), size)
            facts = shuffled(itertools.combinations(order, 2), size)[:200]
            self.assertEqual(kept_order(sorted(order), facts), order)
        for order in long_orders():
            facts = list(zip(order, order[1:]))
            self.assertEqual(kept_order(sorted(order), shuffled(facts, 5)), order)

    def test_no_facts(self):
        for size in range(41):
            self.assertEqual(kept_order(list(range(size)), []), list(range(size)))

    def test_new_list(self):
        keys = [1, 2, 3]
        found = kept_order(keys, [])
        self.assertIsNot(found, keys)
        found.clear()
        self.assertEqual((keys, kept_order(keys, [])), ([1, 2, 3], [1, 2, 3]))


class KeepingOrder(unittest.TestCase):
    def test_against_all_orders_of_a_tree(self):
        for size in range(5):
            for tree, orders in orders_by_tree(size).items():
                keys = list(range(1, size + 1))
                for facts in ([some_facts(keys, seed, amount) for seed in range(5) for amount in range(7)]):
                    self.check_order(facts, tree, orders)

    def test_five_and_six_keys(self):
        for size in (5, 6):
            for number, (tree, orders) in enumerate(orders_by_tree(size).items()):
                for amount in range(1, 9):
                    self.check_order(some_facts(range(1, size + 1), number, amount), tree, orders)

    def check_order(self, facts, tree, orders):
        found = [order for order in orders if keeps(order, facts)]
        self.assertEqual(keeping_order(facts, tree), found[0] if found else None)

    def test_many_keys(self):
        for seed, order in enumerate(long_orders()):
            tree = build(order)
            self.assertEqual(keeping_order(list(zip(order, order[1:])), tree), order)
            other = other_order(order, seed)
            found = keeping_order(shuffled(itertools.combinations(other, 2), seed)[:150], tree)
            self.assertEqual(linked_pairs(found), tree)
            self.assertLessEqual(found, other)
            self.assertIsNone(keeping_order([(key, parent) for key, parent in tree if parent is not None][:1], tree))

    def test_no_tree_keeps_what_goes_up(self):
        tree = build([4, 2, 6, 1, 3])
        for key, upper in ((1, 4), (3, 2), (6, 4), (1, 2)):
            self.assertIsNone(keeping_order([(key, upper)], tree))
        self.assertIsNone(keeping_order([(1, 6), (6, 2)], tree))
        self.assertEqual(keeping_order([(1, 6)], tree), [4, 2, 1, 3, 6])
        self.assertEqual(keeping_order([(6, 2)], tree), [4, 6, 2, 1, 3])

    def test_two_hundred_facts_and_parents(self):
        order = list(range(40))
        facts = list(itertools.combinations(order, 2))[:200]
        self.assertEqual(keeping_order(facts, build(order)), order)
        self.assertEqual(facts, list(itertools.combinations(order, 2))[:200])

    def test_errors(self):
        for wrong in not_trees():
            for facts in ([], None, [(1, 2), (2, 1)]):
                with self.subTest(kind=wrong.__class__):
                    self.assertIs(raised(keeping_order, facts, wrong).__class__, InvalidTree)
        for wrong, position in not_facts():
            error = raised(keeping_order, wrong, build([2, 1, 3]))
            with self.subTest(kind=wrong.__class__, position=position):
                self.assertIs(error.__class__, InvalidFacts)
                self.assertEqual(error.position, position)
        error = raised(keeping_order, [(1, 2), (2, 1), (4, 1)], build([2, 1, 3]))
        self.assertEqual((error.__class__, error.position), (InvalidFacts, 2))
        error = raised(keeping_order, [(1, 2), (2, 1)], build([2, 1, 3]))
        self.assertIs(error.__class__, Contradiction)


class CountKeeping(unittest.TestCase):
    def test_against_all_orders(self):
        for keys, facts in samples():
            self.assertEqual(count_keeping(keys, facts), len(keeping(keys, facts)))

    def test_four_keys(self):
        keys = [-4, 0, 3, 9]
        orders = keeping(keys, [])
        for facts in all_fact_lists(keys)[::5]:
            count = sum(keeps(order, facts) for order in orders)
            if count:
                self.assertEqual(count_keeping(keys, facts), count)

    def test_no_facts(self):
        for size in range(13):
            self.assertEqual(count_keeping(list(range(size)), []), math.factorial(size))

    def test_all_facts_of_an_order(self):
        for size in range(13):
            order = shuffled(range(size), size)
            self.assertEqual(count_keeping(sorted(order), list(itertools.combinations(order, 2))), 1)
            self.assertEqual(count_keeping(sorted(order), list(zip(order, order[1:]))), 1)

    def test_twelve_keys(self):
        keys = list(range(12))
        self.assertEqual(count_keeping(keys, [(3, 7)]), math.factorial(12) // 2)
        self.assertEqual(count_keeping(keys, [(0, 1), (2, 3), (4, 5)] * 3), math.factorial(12) // 8)
        self.assertEqual(count_keeping(keys, [(5, key) for key in keys if key != 5]), math.factorial(11))
        chains = [(key, key + 2) for key in range(10)]
        self.assertEqual(count_keeping(keys, chains), math.comb(12, 6))

    def test_trees(self):
        for size in (3, 5):
            for tree, orders in orders_by_tree(size).items():
                facts = [(parent, key) for key, parent in tree if parent is not None]
                self.assertEqual(count_keeping(list(range(1, size + 1)), facts), len(orders))

    def test_too_large(self):
        for size in (13, 14, 40):
            error = raised(count_keeping, list(range(size)), [(1, 2)])
            self.assertIs(error.__class__, TooLarge)
            self.assertEqual(error.amount, size)

    def test_other_errors_before_too_large(self):
        keys = list(range(13))
        self.assertIs(raised(count_keeping, keys[::-1], []).__class__, InvalidKeys)
        self.assertIs(raised(count_keeping, keys, [(1, 13)]).__class__, InvalidFacts)
        self.assertIs(raised(count_keeping, keys, [(1, 2), (2, 1)]).__class__, Contradiction)


class Trees(unittest.TestCase):
    def test_facts_about_all_trees(self):
        for tree in all_trees(4):
            self.assertEqual(linked_pairs(keeping_order([], tree)), tree)
