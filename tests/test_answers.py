"""Point [22]: answers from observations, clashes and the best question."""

import itertools
import unittest

from insertionorders.errors import InvalidObservations, TooLarge, UnknownKey, Unsatisfiable
from insertionorders.observations import answer, best_question, clash, fitting_tree, fitting_trees, is_clash
from insertionorders.trees import build
from tests.support import Awkward, other_objects, raised, shuffled, unknown_keys
from tests.test_observations import above_pairs, all_about, fits, samples, some_observations

UNSATISFIABLE = [(1, 2, True), (2, 1, True)]


class Answer(unittest.TestCase):
    def test_against_all_trees(self):
        for keys, observations, fitting in samples():
            truths = [above_pairs(tree) for tree, orders in fitting]
            before = list(keys), list(observations)
            for upper, lower in itertools.permutations(keys, 2):
                if not fitting:
                    error = raised(answer, keys, observations, upper, lower)
                    self.assertIs(error.__class__, Unsatisfiable)
                else:
                    found = {pairs[upper, lower] for pairs in truths}
                    expected = "open" if len(found) == 2 else "always" if found == {True} else "never"
                    self.assertEqual(answer(keys, observations, upper, lower), expected)
            self.assertEqual((keys, observations), before)

    def test_many_keys(self):
        for seed in range(4):
            order = shuffled(range(40), seed)
            truths = above_pairs(build(order))
            known = shuffled(all_about(build(order)), seed)
            words = set()
            for upper, lower in list(truths)[::97]:
                word = answer(sorted(order), known, upper, lower)
                self.assertEqual(word, "always" if truths[upper, lower] else "never")
                word = answer(sorted(order), known[:80], upper, lower)
                self.assertIn(word, ("open", "always" if truths[upper, lower] else "never"))
                for truth, no in ((True, "never"), (False, "always")):
                    fitting = fitting_tree(sorted(order), known[:80] + [(upper, lower, truth)])
                    self.assertIs(fitting is None, word == no)
                words.add(word)
            self.assertIn("open", words)

    def test_unknown_keys(self):
        keys = list(range(1, 41))
        for key in unknown_keys():
            for observations in ([], UNSATISFIABLE):
                for pair in ((key, 1), (1, key), (key, key), (key, None)):
                    error = raised(answer, keys, observations, *pair)
                    with self.subTest(kind=key.__class__):
                        self.assertIs(error.__class__, UnknownKey)
                        self.assertIs(error.key, key)

    def test_equal_keys(self):
        for observations in ([], UNSATISFIABLE):
            error = raised(answer, [1, 2, 3], observations, 3, 3)
            self.assertEqual((error.__class__, error.key), (UnknownKey, 3))
            error = raised(answer, [1, 2, 3], observations, 7, 8)
            self.assertEqual((error.__class__, error.key), (UnknownKey, 7))

    def test_unsatisfiable_last(self):
        self.assertIs(raised(answer, [1, 2], UNSATISFIABLE, 1, 2).__class__, Unsatisfiable)
        self.assertIs(raised(answer, [1, 2], UNSATISFIABLE + [None], 1, 2).__class__, InvalidObservations)


def contrary_observations():
    """Return many keys with observations that no tree fits."""
    found = []
    for seed in range(8):
        order = shuffled(range(40), seed)
        known = shuffled(all_about(build(order)), seed)
        upper, lower, truth = known[30]
        found.append((sorted(order), known[:600] + [(upper, lower, not truth)]))
        mixed = [(upper, lower, truth if at % 5 else not truth) for at, (upper, lower, truth) in enumerate(known)]
        found.append((sorted(order), mixed[:400]))
        found.append((sorted(order), mixed + mixed[:40]))
    # Each key bars the next one: all of these are needed.
    for size in (2, 3, 10, 40):
        keys = list(range(size))
        found.append((keys, [(key, keys[key - 1], False) for key in keys[1:]] + [(0, size - 1, False)]))
        found.append((keys, [(key, (key + 1) % size, False) for key in keys]))
        found.append((keys, [(key, 0 if key else size - 1, False) for key in keys] * 2))
    return found


class Clash(unittest.TestCase):
    def check_clash(self, keys, observations, positions):
        self.assertIs(positions.__class__, list)
        self.assertEqual(positions, sorted(set(positions)))
        chosen = [observations[position] for position in positions]
        self.assertEqual(fitting_trees(keys, chosen), 0)
        for at in range(len(chosen)):
            fewer = chosen[:at] + chosen[at + 1:]
            self.assertTrue(fits(above_pairs(fitting_tree(keys, fewer)), fewer))
        self.assertIs(is_clash(keys, observations, positions), True)

    def test_against_all_trees(self):
        sizes = set()
        for keys, observations, fitting in samples():
            before = list(keys), list(observations)
            positions = clash(keys, observations)
            if fitting:
                self.assertIsNone(positions)
            else:
                self.check_clash(keys, observations, positions)
                sizes.add(len(positions))
            self.assertEqual((keys, observations), before)
        self.assertGreaterEqual(len(sizes), 3)

    def test_many_keys(self):
        for keys, observations in contrary_observations():
            self.check_clash(keys, observations, clash(keys, observations))

    def test_all_are_needed(self):
        for size in (2, 5, 40):
            observations = [(key, 0 if key else size - 1, False) for key in range(size)]
            self.assertEqual(clash(list(range(size)), observations), list(range(size)))

    def test_repeated_observations(self):
        self.assertIn(clash([1, 2], UNSATISFIABLE * 2), ([0, 1], [0, 3], [1, 2], [2, 3]))
        self.assertIsNone(clash([1, 2], UNSATISFIABLE[:1] * 3))

    def test_new_list(self):
        clash([1, 2], UNSATISFIABLE).clear()
        self.assertEqual(clash([1, 2], UNSATISFIABLE), [0, 1])


class IsClash(unittest.TestCase):
    def test_every_list_of_positions(self):
        accepted = 0
        for size in (2, 3, 4):
            keys = list(range(1, size + 1))
            for seed in range(0, 30, 3):
                observations = some_observations(size, seed, 6)
                fitted = {}
                for length in range(len(observations) + 1):
                    for some in itertools.combinations(range(len(observations)), length):
                        fitted[some] = fitting_trees(keys, [observations[at] for at in some]) > 0
                for some, fitting in fitted.items():
                    expected = not fitting and all(fitted[some[:at] + some[at + 1:]] for at in range(len(some)))
                    self.assertIs(is_clash(keys, observations, list(some)), expected)
                    accepted += expected
                    if len(some) > 1:
                        self.assertIs(is_clash(keys, observations, list(some)[::-1]), False)
                        self.assertIs(is_clash(keys, observations, list(some[:1] + some)), False)
        self.assertGreater(accepted, 10)

    def test_many_keys(self):
        for keys, observations in contrary_observations():
            positions = clash(keys, observations)
            others = [at for at in range(len(observations)) if at not in positions]
            for other in others[::50]:
                self.assertIs(is_clash(keys, observations, sorted(positions + [other])), False)
            self.assertIs(is_clash(keys, observations, positions[1:]), False)
            self.assertIs(is_clash(keys, observations, positions[:-1]), False)
            whole = list(range(len(observations)))
            self.assertIs(is_clash(keys, observations, whole), positions == whole)
            self.assertIs(is_clash(keys, observations, tuple(positions)), False)
            self.assertIs(is_clash(keys, observations, positions + [len(observations)]), False)
            self.assertIs(is_clash(keys, observations, [-1] + positions), False)

    def test_positions_that_are_none(self):
        right = [(1, 2, True), (2, 1, True), (1, 2, True)]
        for candidate in ([0, 1], [1, 2]):
            self.assertIs(is_clash([1, 2], right, candidate), True)
        for candidate in ([0, 2], [1, 0], [0, 0, 1], [0, 1, 2], [0, 1, 3], [-3, 1], [-2, 2], [0, -1], [], [0], [1]):
            self.assertIs(is_clash([1, 2], right, candidate), False)
        for candidate in ([-1, 0], [-1, 1], [-2, 1], [-2, -1]):
            self.assertIs(is_clash([1, 2], UNSATISFIABLE, candidate), False)
        for candidate in ([False, 1], [0, True], [0, 1.0], [0.0, 1], [0, None], ["0", 1], [[0], 1], [(0, 1)]):
            self.assertIs(is_clash([1, 2], right, candidate), False)

    def test_objects_of_other_kinds(self):
        for candidate in [None, (), (0, 1), {0: 1, 1: 0}, {0, 1}, range(2)] + other_objects():
            with self.subTest(kind=candidate.__class__):
                self.assertIs(is_clash([1, 2], UNSATISFIABLE, candidate), False)
                self.assertIs(is_clash([1, 2], UNSATISFIABLE, [0, candidate]), False)
                self.assertIs(is_clash([1, 2], UNSATISFIABLE, [candidate, 1]), False)
                self.assertIs(is_clash([], [], candidate), False)

    def test_long_candidates(self):
        keys = list(range(1, 41))
        for candidate in (list(range(1600)), list(range(100000)), [Awkward()] * 100000, [0] * 100000):
            self.assertIs(is_clash(keys, UNSATISFIABLE * 800, candidate), False)

    def test_candidate_stays(self):
        candidate = [1, 0, None]
        is_clash([1, 2], UNSATISFIABLE, candidate)
        self.assertEqual(candidate, [1, 0, None])


class BestQuestion(unittest.TestCase):
    def test_against_all_trees(self):
        for keys, observations, fitting in samples():
            if not fitting:
                self.assertIs(raised(best_question, keys, observations).__class__, Unsatisfiable)
                continue
            truths = [above_pairs(tree) for tree, orders in fitting]
            rated = []
            for pair in itertools.permutations(keys, 2):
                agreeing = sum(pairs[pair] for pairs in truths)
                if 0 < agreeing < len(truths):
                    rated.append((max(agreeing, len(truths) - agreeing), pair))
            found = best_question(keys, observations)
            self.assertEqual(found, min(rated)[1] if rated else None)
            self.assertIn(found.__class__, (tuple, None.__class__))

    def test_one_tree_left(self):
        self.assertIsNone(best_question([], []))
        self.assertIsNone(best_question([3], []))
        keys = list(range(10))
        self.assertIsNone(best_question(keys, all_about(build(shuffled(keys, 1)))))

    def test_ten_keys(self):
        keys = list(range(10))
        for amount in (0, 5, 12):
            observations = all_about(build(shuffled(keys, 4)))[:amount]
            upper, lower = best_question(keys, observations)
            whole = fitting_trees(keys, observations)
            worst = {}
            for pair in itertools.permutations(keys, 2):
                yes = fitting_trees(keys, observations + [(*pair, True)])
                no = fitting_trees(keys, observations + [(*pair, False)])
                self.assertEqual(yes + no, whole)
                if yes and no:
                    worst[pair] = max(yes, no)
            self.assertEqual((upper, lower), min(pair for pair in worst if worst[pair] == min(worst.values())))

    def test_too_large(self):
        for size in (11, 12, 40):
            for observations in ([], UNSATISFIABLE):
                error = raised(best_question, list(range(size)), observations)
                self.assertEqual((error.__class__, error.amount), (TooLarge, size))
        self.assertIs(raised(best_question, list(range(11)), [None]).__class__, InvalidObservations)

    def test_unsatisfiable(self):
        self.assertIs(raised(best_question, [1, 2], UNSATISFIABLE).__class__, Unsatisfiable)
        self.assertIs(raised(best_question, list(range(10)), UNSATISFIABLE).__class__, Unsatisfiable)
