"""Guarantee [3] (j) for rotations, facts, profiles and observations: shifted and negated keys."""

import itertools
import unittest

from insertionorders.facts import count_keeping, is_standing, keeping_order, kept_order, standing, sure_pairs
from insertionorders.observations import answer, best_question, clash, fitting_orders, fitting_tree, fitting_trees
from insertionorders.observations import is_clash, search_observations
from insertionorders.profiles import flattest_order, kept_depths, kept_heights, kept_totals, steepest_order
from insertionorders.rotations import fewest_rotations, intervals, is_route, missing_intervals, rotated
from insertionorders.rotations import rotation_order, route
from insertionorders.trees import build, mirrored
from tests.support import linked, linked_path, long_pairs, negated, shifted, shuffled, some_facts
from tests.test_observations import all_about, some_observations

SHIFTS = (-1000, 1, 10 ** 17)


def mirrored_list(values):
    """Return the negated values in the opposite order, as a list that stays ascending."""
    return negated(values)[::-1]


def mirrored_ends(intervals_of_a_tree):
    return sorted((-high, -low) for low, high in intervals_of_a_tree)


def trees_to_move():
    return [(build(first), build(second)) for first, second in long_pairs()[:-4:5]]


def small_trees():
    return [(build(shuffled(range(6), seed)), build(shuffled(range(6), seed + 50))) for seed in range(15)]


def facts_to_move():
    """Return pairs of up to seven keys and facts about them."""
    return [(list(range(0, 3 * size, 3)), some_facts(range(0, 3 * size, 3), size, amount))
            for size in range(2, 8) for amount in (0, 1, 3, 6)]


def observations_to_move():
    """Return pairs of up to five keys and observations about them, some of them unsatisfiable."""
    return [(list(range(1, size + 1)), some_observations(size, seed, amount))
            for size in range(2, 6) for seed in range(6) for amount in (0, 1, 3, 6)]


def worst_case(keys, observations, pair):
    """Return the greater one of the numbers of trees that the answers to a question leave."""
    return max(fitting_trees(keys, observations + [(*pair, truth)]) for truth in (True, False))


class Shifted(unittest.TestCase):
    def test_rotations(self):
        for (first, second), by in itertools.product(trees_to_move(), SHIFTS):
            for key, parent in first[::5]:
                if parent is not None:
                    self.assertEqual(rotated(shifted(first, by), key + by), shifted(rotated(first, key), by))
                    order, position = rotation_order(shifted(first, by), key + by)
                    self.assertEqual(order[position:position + 2], [parent + by, key + by])
            moved = shifted(first, by), shifted(second, by)
            self.assertEqual(intervals(moved[0]), shifted(intervals(first), by))
            self.assertEqual(missing_intervals(*moved), shifted(missing_intervals(first, second), by))
            keys = route(first, second)
            self.assertIs(is_route(*moved, shifted(keys, by)), True)
            self.assertIs(is_route(*moved, shifted(keys[1:], by)), is_route(first, second, keys[1:]))

    def test_fewest_rotations(self):
        for (first, second), by in itertools.product(small_trees(), SHIFTS):
            moved = shifted(first, by), shifted(second, by)
            self.assertEqual(fewest_rotations(*moved), fewest_rotations(first, second))

    def test_facts(self):
        for (keys, facts), by in itertools.product(facts_to_move(), SHIFTS):
            moved = shifted(keys, by), shifted(facts, by)
            self.assertEqual(kept_order(*moved), shifted(kept_order(keys, facts), by))
            self.assertEqual(sure_pairs(*moved), shifted(sure_pairs(keys, facts), by))
            self.assertEqual(count_keeping(*moved), count_keeping(keys, facts))
            tree = build(shuffled(keys, 3))
            self.assertEqual(keeping_order(moved[1], shifted(tree, by)), shifted(keeping_order(facts, tree), by))
            for upper, lower in itertools.permutations(keys, 2):
                result = standing(keys, facts, upper, lower)
                self.assertEqual(standing(*moved, upper + by, lower + by)[0], result[0])
                self.assertIs(is_standing(*moved, upper + by, lower + by, shifted(result, by)), True)
                self.assertIs(is_standing(*moved, upper + by, lower + by, result), False)

    def test_profiles(self):
        for (keys, facts), by in itertools.product(facts_to_move(), SHIFTS):
            moved = shifted(keys, by), shifted(facts, by)
            self.assertEqual(kept_totals(*moved), kept_totals(keys, facts))
            self.assertEqual(kept_depths(*moved, keys[1] + by), kept_depths(keys, facts, keys[1]))
            self.assertEqual(sorted(flattest_order(moved[0])), moved[0])
            self.assertEqual(sorted(steepest_order(moved[0])), moved[0])
            if len(keys) < 6:
                self.assertEqual(kept_heights(*moved), kept_heights(keys, facts))

    def test_observations(self):
        for (keys, known), by in itertools.product(observations_to_move(), SHIFTS):
            moved = shifted(keys, by), shifted(known, by)
            self.assertEqual(fitting_trees(*moved, max_height=3), fitting_trees(keys, known, max_height=3))
            self.assertEqual(fitting_orders(*moved), fitting_orders(keys, known))
            self.assertIs(fitting_tree(*moved) is None, fitting_tree(keys, known) is None)
            met = linked_path(linked(shuffled(keys, by))[keys[0]])
            found = search_observations(keys, met)
            self.assertEqual(search_observations(moved[0], shifted(met, by)), shifted(found, by))
            positions = clash(keys, known)
            self.assertIs(clash(*moved) is None, positions is None)
            if positions is not None:
                self.assertIs(is_clash(*moved, positions), True)
            else:
                self.assertEqual(best_question(*moved), shifted(best_question(keys, known), by))
                for upper, lower in itertools.permutations(keys, 2):
                    self.assertEqual(answer(*moved, upper + by, lower + by), answer(keys, known, upper, lower))


class Negated(unittest.TestCase):
    def test_rotations(self):
        for first, second in trees_to_move():
            other = mirrored(first), mirrored(second)
            for key, parent in first[::5]:
                if parent is not None:
                    self.assertEqual(rotated(other[0], -key), mirrored(rotated(first, key)))
            self.assertEqual(intervals(other[0]), mirrored_ends(intervals(first)))
            self.assertEqual(missing_intervals(*other), mirrored_ends(missing_intervals(first, second)))
            keys = route(first, second)
            self.assertIs(is_route(*other, negated(keys)), True)
            self.assertIs(is_route(*other, negated(keys[1:])), is_route(first, second, keys[1:]))

    def test_fewest_rotations(self):
        for first, second in small_trees():
            self.assertEqual(fewest_rotations(mirrored(first), mirrored(second)), fewest_rotations(first, second))

    def test_facts(self):
        for keys, facts in facts_to_move():
            other = mirrored_list(keys), negated(facts)
            self.assertEqual(sure_pairs(*other), sorted(negated(sure_pairs(keys, facts))))
            self.assertEqual(count_keeping(*other), count_keeping(keys, facts))
            tree = build(shuffled(keys, 3))
            self.assertIs(keeping_order(other[1], mirrored(tree)) is None, keeping_order(facts, tree) is None)
            for upper, lower in itertools.permutations(keys, 2):
                word, *rest = standing(keys, facts, upper, lower)
                self.assertEqual(standing(*other, -upper, -lower)[0], word)
                turned = mirrored_list(rest[0]) if word == "always" else negated(rest[0])
                candidate = (word, turned, *negated(rest[1:]))
                self.assertIs(is_standing(*other, -upper, -lower, candidate), True)

    def test_profiles(self):
        for keys, facts in facts_to_move():
            other = mirrored_list(keys), negated(facts)
            self.assertEqual(kept_totals(*other), kept_totals(keys, facts))
            self.assertEqual(kept_depths(*other, -keys[1]), kept_depths(keys, facts, keys[1]))
            if len(keys) < 6:
                self.assertEqual(kept_heights(*other), kept_heights(keys, facts))

    def test_observations(self):
        for keys, known in observations_to_move():
            other = mirrored_list(keys), negated(known)
            self.assertEqual(fitting_trees(*other, max_height=3), fitting_trees(keys, known, max_height=3))
            self.assertEqual(fitting_orders(*other), fitting_orders(keys, known))
            self.assertIs(fitting_tree(*other) is None, fitting_tree(keys, known) is None)
            positions = clash(keys, known)
            self.assertIs(clash(*other) is None, positions is None)
            if positions is not None:
                self.assertIs(is_clash(*other, positions), True)
                continue
            for upper, lower in itertools.permutations(keys, 2):
                self.assertEqual(answer(*other, -upper, -lower), answer(keys, known, upper, lower))
            pair, opposite = best_question(keys, known), best_question(*other)
            self.assertIs(pair is None, opposite is None)
            if pair is not None:
                self.assertEqual(worst_case(*other, opposite), worst_case(keys, known, pair))

    def test_searches(self):
        for seed in range(10):
            order = shuffled(range(20), seed)
            met = linked_path(linked(order)[seed])
            found = search_observations(sorted(order), met)
            at = len(met) - 1
            expected = negated(found[:at]) + mirrored_list(found[at:])
            self.assertEqual(search_observations(mirrored_list(sorted(order)), negated(met)), expected)

    def test_many_keys(self):
        order = shuffled(range(40), 7)
        known = shuffled(all_about(build(order)), 7)[:100]
        keys = sorted(order)
        other = mirrored_list(keys), negated(known)
        self.assertEqual(fitting_trees(*other), fitting_trees(keys, known))
        self.assertEqual(fitting_orders(*other, max_height=12), fitting_orders(keys, known, max_height=12))
