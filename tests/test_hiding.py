"""Point [13]: places that make two orders act alike, and certificates that fewer do not suffice."""

import itertools
import unittest

from insertionorders.errors import DifferentKeys, InvalidOrder, InvalidPosition
from insertionorders.gaps import act_alike, alike_at, grow, hiding_certificate, hiding_places, is_hiding_certificate
from insertionorders.trees import build
from tests.support import LIMIT, Awkward, all_orders, linked_pairs, long_orders, long_pairs, not_orders, other_objects
from tests.support import raised


def checked(first, second):
    return is_hiding_certificate(first, second, [])


def alike_nowhere(first, second):
    return alike_at(first, second, [])


OF_TWO_ORDERS = (alike_nowhere, hiding_places, hiding_certificate, checked)


def few_pairs():
    """Return all pairs of orders of up to four keys, and some of five and six keys."""
    pairs = [pair for size in range(5) for pair in itertools.product(all_orders(size), repeat=2)]
    pairs += list(itertools.product(all_orders(5), repeat=2))[::13]
    return pairs + list(zip(all_orders(6)[::3], all_orders(6)[::-3])) + list(zip(all_orders(6), all_orders(6)[5:]))


def sets_of_places(keys):
    places = range(1, len(keys))
    return [list(some) for size in range(len(keys)) for some in itertools.combinations(places, size)]


def groups_alike(first, second, places):
    """Tell alike_at from the trees of the groups."""
    keys = sorted(first)
    for start, end in zip([0, *places], [*places, len(keys)]):
        group = keys[start:end]
        one, other = ([key for key in order if key in group] for order in (first, second))
        if linked_pairs(one) != linked_pairs(other):
            return False
    return True


def is_conflict(first, second, low, high):
    """Tell by the words of the document."""
    one, other = ([key for key in order if low <= key <= high][0] for order in (first, second))
    return one != other and {one, other} == {low, high}


def conflicts_of(first, second):
    return [pair for pair in itertools.combinations(sorted(first), 2) if is_conflict(first, second, *pair)]


class AlikeAt(unittest.TestCase):
    def test_few_keys(self):
        for first, second in few_pairs():
            for places in sets_of_places(first):
                before = list(places)
                self.assertIs(alike_at(first, second, places), groups_alike(first, second, places))
                self.assertEqual(places, before)

    def test_with_present_keys_in_the_places(self):
        for first, second in few_pairs()[::5]:
            spread, other = [10 * key for key in first], [10 * key for key in second]
            for places in sets_of_places(first):
                present = [10 * place + 5 for place in places]
                alike = alike_at(spread, other, places)
                self.assertIs(alike, act_alike(present, spread, other))
                tree = build(present)
                self.assertIs(alike, grow(tree, spread) == grow(tree, other))

    def test_many_keys(self):
        for first, second in long_pairs():
            size = len(first)
            for places in ([], [1], [size - 1], list(range(1, size)), list(range(2, size, 2)), list(range(3, size, 7))):
                self.assertIs(alike_at(first, second, places), groups_alike(first, second, places))

    def test_no_integer_fits(self):
        self.assertIs(alike_at([1, 2], [2, 1], [1]), True)
        self.assertIs(alike_at([1, 2], [2, 1], []), False)

    def test_empty(self):
        self.assertIs(alike_at([], [], []), True)
        self.assertIs(alike_at([4], [4], []), True)


class Places(unittest.TestCase):
    def test_as_few_as_possible(self):
        for first, second in few_pairs():
            found = hiding_places(first, second)
            least = min(len(places) for places in sets_of_places(first) or [[]]
                        if groups_alike(first, second, places))
            self.assertEqual(len(found), least)
            self.assertIs(alike_at(first, second, found), True)
            self.assertIs(groups_alike(first, second, found), True)

    def test_many_keys(self):
        for first, second in long_pairs():
            before = list(first), list(second)
            found = hiding_places(first, second)
            self.assertIs(found.__class__, list)
            self.assertEqual(found, sorted(set(found)))
            self.assertLessEqual(set(found), set(range(1, len(first))))
            self.assertIs(groups_alike(first, second, found), True)
            for at in range(len(found)):
                self.assertIs(groups_alike(first, second, found[:at] + found[at + 1:]), False)
            self.assertEqual(len(hiding_places(second, first)), len(found))
            self.assertEqual((first, second), before)

    def test_none_exactly_for_the_same_tree(self):
        for first, second in few_pairs() + long_pairs():
            self.assertIs(hiding_places(first, second) == [], build(first) == build(second))

    def test_all_places(self):
        self.assertEqual(hiding_places(list(range(40)), list(range(39, -1, -1))), list(range(1, 40)))

    def test_one_place_for_many_keys(self):
        inner = list(range(1, 39))
        self.assertEqual(len(hiding_places([0, 39] + inner, [39, 0] + inner)), 1)


class Certificates(unittest.TestCase):
    def check_pair(self, first, second):
        found = hiding_certificate(first, second)
        self.assertIs(found.__class__, list)
        self.assertEqual(len(found), len(hiding_places(first, second)))
        end = -LIMIT
        for pair in found:
            self.assertIs(pair.__class__, tuple)
            low, high = pair
            self.assertTrue(end <= low < high)
            self.assertTrue(low in first and high in first and is_conflict(first, second, low, high))
            end = high
        self.assertEqual(found, sorted(found))
        self.assertIs(is_hiding_certificate(first, second, found), True)

    def test_few_keys(self):
        for first, second in few_pairs():
            self.check_pair(first, second)

    def test_many_keys(self):
        for first, second in long_pairs():
            self.check_pair(first, second)
            self.check_pair(second, first)

    def test_new_lists(self):
        for function in (hiding_places, hiding_certificate):
            first, second = [1, 2, 3], [3, 2, 1]
            expected = list(function(first, second))
            function(first, second).clear()
            self.assertEqual(function(first, second), expected)
            self.assertEqual((first, second), ([1, 2, 3], [3, 2, 1]))


class Checker(unittest.TestCase):
    def test_all_lists_of_pairs(self):
        for first, second in few_pairs()[::3]:
            if len(first) > 4:
                continue
            pairs = list(itertools.product(first + [9], repeat=2))
            conflicts = conflicts_of(first, second)
            for pair in pairs:
                self.assertIs(is_hiding_certificate(first, second, [pair]), pair in conflicts)
            for one, other in itertools.product(pairs, repeat=2):
                right = one in conflicts and other in conflicts and one[1] <= other[0]
                self.assertIs(is_hiding_certificate(first, second, [one, other]), right)

    def test_three_conflicts(self):
        first, second = [1, 2, 3, 4], [4, 3, 2, 1]
        for some in itertools.product(conflicts_of(first, second), repeat=3):
            self.assertIs(is_hiding_certificate(first, second, list(some)), some == ((1, 2), (2, 3), (3, 4)))

    def test_no_accepted_one_has_more_conflicts_than_places(self):
        for first, second in few_pairs()[::7]:
            conflicts = conflicts_of(first, second)
            most = len(hiding_places(first, second))
            for size in range(4):
                for some in itertools.combinations(conflicts, size):
                    if is_hiding_certificate(first, second, list(some)):
                        self.assertLessEqual(size, most)

    def test_changed_certificates_of_many_keys(self):
        for first, second in long_pairs():
            right = hiding_certificate(first, second)
            self.assertIs(is_hiding_certificate(first, second, right[::2]), True)
            self.assertIs(is_hiding_certificate(first, second, right[1:]), True)
            conflicts = conflicts_of(first, second)
            for at, (low, high) in enumerate(right):
                wrong = [(high, low), (low, low), (high, high), [low, high], (low,), (low, high, high), low, None]
                wrong += [(low, LIMIT - 300), (-LIMIT + 300, high), (low + 0.0, high), {low, high}, "ab"]
                for pair in wrong:
                    changed = right[:at] + [pair] + right[at + 1:]
                    self.assertIs(is_hiding_certificate(first, second, changed), False)
                self.assertIs(is_hiding_certificate(first, second, right[:at] + [right[at]] + right[at:]), False)
            if len(right) > 1:
                self.assertIs(is_hiding_certificate(first, second, right[::-1]), False)
            for pair in itertools.combinations(sorted(first)[::4], 2):
                self.assertIs(is_hiding_certificate(first, second, [pair]), pair in conflicts)

    def test_overlapping(self):
        first, second = [1, 2, 3], [3, 2, 1]
        self.assertIs(is_hiding_certificate(first, second, [(1, 2), (2, 3)]), True)
        self.assertIs(is_hiding_certificate(first, second, [(1, 3)]), True)
        self.assertIs(is_hiding_certificate(first, second, [(1, 2), (1, 3)]), False)
        self.assertIs(is_hiding_certificate(first, second, [(1, 3), (2, 3)]), False)
        self.assertIs(is_hiding_certificate(first, second, [(2, 3), (1, 2)]), False)

    def test_no_conflict(self):
        self.assertIs(is_hiding_certificate([1, 3, 2], [3, 1, 2], [(1, 3)]), True)
        self.assertIs(is_hiding_certificate([1, 3, 2], [3, 1, 2], [(1, 2)]), False)
        self.assertIs(is_hiding_certificate([2, 1, 3], [2, 3, 1], [(1, 3)]), False)
        self.assertIs(is_hiding_certificate([1, 2, 3], [2, 1, 3], [(1, 3)]), False)
        self.assertIs(is_hiding_certificate([1, 2], [1, 2], [(1, 2)]), False)
        self.assertIs(is_hiding_certificate([1, 2], [2, 1], [(0, 2)]), False)
        self.assertIs(is_hiding_certificate([1, 2], [2, 1], [(1, 3)]), False)
        self.assertIs(is_hiding_certificate([5], [5], [(5, 5)]), False)

    def test_empty_list(self):
        for first, second in few_pairs()[:50]:
            self.assertIs(is_hiding_certificate(first, second, []), True)

    def test_objects_of_other_kinds(self):
        first, second = [30, 60, 90], [90, 60, 30]
        right = ((30, 60), (60, 90))
        self.assertIs(is_hiding_certificate(first, second, list(right)), True)
        for candidate in [None, 1, (), right, [[]], [()], dict([right]), set(right)] + other_objects():
            with self.subTest(kind=candidate.__class__):
                self.assertIs(is_hiding_certificate(first, second, candidate), False)
                self.assertIs(is_hiding_certificate(first, second, [candidate]), False)
                self.assertIs(is_hiding_certificate(first, second, [(30, 60), candidate]), False)
                self.assertIs(is_hiding_certificate(first, second, [(candidate, 90)]), False)
                self.assertIs(is_hiding_certificate(first, second, [(30, candidate)]), False)

    def test_lists_and_bools(self):
        first, second = [0, 1, 2], [2, 1, 0]
        wrong = [[[0, 1]], [(0, 1), [1, 2]], [(0, True)], [(False, 1)], [(True, 2)], [(0, 1), (True, 2)], [(0, 1.0)]]
        for candidate in wrong:
            self.assertIs(is_hiding_certificate(first, second, candidate), False)

    def test_long_candidate(self):
        self.assertIs(is_hiding_certificate([1, 2], [2, 1], [(1, 2)] * 100000), False)
        self.assertIs(is_hiding_certificate([1, 2], [2, 1], [Awkward()] * 100000), False)

    def test_candidate_stays(self):
        candidate = [(1, 2), [3, 4], None]
        is_hiding_certificate([1, 2], [2, 1], candidate)
        self.assertEqual(candidate, [(1, 2), [3, 4], None])


class Errors(unittest.TestCase):
    def refused(self, kind, field, value, function, *arguments):
        error = raised(function, *arguments)
        with self.subTest(function=function.__name__, kinds=[one.__class__ for one in arguments]):
            self.assertIs(error.__class__, kind)
            self.assertEqual(getattr(error, field), value)

    def test_orders(self):
        for wrong, position in not_orders():
            for function in OF_TWO_ORDERS:
                self.refused(InvalidOrder, "position", position, function, wrong, [1])
                self.refused(InvalidOrder, "position", position, function, [1], wrong)
            for function in (alike_at, is_hiding_certificate):
                self.refused(InvalidOrder, "position", position, function, wrong, None, None)
                self.refused(InvalidOrder, "position", position, function, [1, 2], wrong, None)

    def test_different_keys(self):
        for function in OF_TWO_ORDERS:
            self.refused(DifferentKeys, "key", 1, function, [1], [])
            self.refused(DifferentKeys, "key", 2, function, [3, 1], [1, 2])
            self.refused(InvalidOrder, "position", 1, function, [3, 3], [1, 2])
        self.refused(DifferentKeys, "key", 2, alike_at, [3, 1], [1, 2], None)
        self.refused(DifferentKeys, "key", 2, is_hiding_certificate, [3, 1], [1, 2], None)

    def refused_places(self, order, places, value):
        error = raised(alike_at, order, order[::-1], places)
        self.assertIs(error.__class__, InvalidPosition)
        self.assertIs(error.value, value)

    def test_places_that_are_not_a_list(self):
        for places in [None, (), (1,), 1] + other_objects():
            if not isinstance(places, list):
                with self.subTest(kind=places.__class__):
                    self.refused_places([2, 1, 3], places, None)

    def test_elements_that_are_not_places(self):
        for order in ([], [7], [2, 1, 3], *long_orders()[:3]):
            for wrong in (0, -1, len(order), len(order) + 1, LIMIT):
                self.refused_places(order, [wrong], wrong)
            for wrong in [None, [], ()] + other_objects():
                with self.subTest(length=len(order), kind=wrong.__class__):
                    self.refused_places(order, [wrong], wrong)
                    if len(order) > 2:
                        self.refused_places(order, [1, wrong, 0], wrong)

    def test_elements_that_are_not_greater(self):
        order = list(range(10))
        self.refused_places(order, [1, 1], 1)
        self.refused_places(order, [2, 1], 1)
        self.refused_places(order, [1, 5, 5], 5)
        self.refused_places(order, [1, 5, 4, 0], 4)
        self.refused_places(order, [9, 3], 3)
        self.refused_places(order, [3, 9, 10], 10)

    def test_first_of_several(self):
        order = list(range(5))
        self.refused_places(order, [0, 9], 0)
        self.refused_places(order, [1, 9, True], 9)
        self.refused_places(order, [True, 1], True)
