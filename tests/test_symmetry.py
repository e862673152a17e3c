"""Guarantee [3] (j) for the functions of stages 2 to 5: shifted and negated keys."""

import itertools
import unittest

from insertionorders.ancestry import ancestors, depths, first_between, is_above, meeting, total
from insertionorders.counting import count_orders, next_order, number_of, order_at, orders_of
from insertionorders.exchanges import between, difference, distance, effect, exchanged, exchanges, same_tree
from insertionorders.gaps import act_alike, alike_at, grow, hiding_certificate, hiding_places, is_hiding_certificate
from insertionorders.gaps import parts, separating_gap
from insertionorders.trees import build, mirrored
from tests.support import all_orders, long_orders, long_pairs, negated, shifted

SHIFTS = (-1000, 1, 10 ** 17)


def orders_to_move():
    return all_orders(4)[::5] + long_orders()[:-1:3]


def pairs_to_move():
    return list(itertools.product(all_orders(4), repeat=2))[::11] + long_pairs()[:-4:3]


def mirrored_list(values):
    """Return the negated values in the opposite order, as a list that stays ascending."""
    return [-value for value in reversed(values)]


class Shifted(unittest.TestCase):
    def test_ancestry(self):
        for order, by in itertools.product(orders_to_move(), SHIFTS):
            moved = shifted(order, by)
            self.assertEqual(depths(moved), depths(order))
            self.assertEqual(total(moved), total(order))
            for one, other in zip(order, order[3:] + order[:3]):
                found = first_between(order, one, other)
                self.assertEqual(first_between(moved, one + by, other + by), shifted(found, by))
                self.assertIs(is_above(moved, one + by, other + by), is_above(order, one, other))
                self.assertEqual(ancestors(moved, one + by), shifted(ancestors(order, one), by))
                self.assertEqual(meeting(moved, one + by, other + by), meeting(order, one, other) + by)

    def test_one_exchange(self):
        for order, by in itertools.product(orders_to_move(), SHIFTS):
            moved = shifted(order, by)
            for position in range(len(order) - 1):
                self.assertEqual(exchanged(moved, position), shifted(exchanged(order, position), by))
                self.assertEqual(effect(moved, position), shifted(effect(order, position), by))

    def test_two_orders(self):
        for (first, second), by in itertools.product(pairs_to_move(), SHIFTS):
            moved = shifted(first, by), shifted(second, by)
            self.assertIs(same_tree(*moved), same_tree(first, second))
            self.assertEqual(difference(*moved), shifted(difference(first, second), by))
            self.assertEqual(distance(*moved), distance(first, second))
            if same_tree(first, second):
                self.assertEqual(len(exchanges(*moved)), len(exchanges(first, second)))
                self.assertEqual(len(list(between(*moved))), len(exchanges(first, second)) + 1)

    def test_counting(self):
        for order, by in itertools.product(orders_to_move(), SHIFTS):
            tree, moved = build(order), shifted(order, by)
            self.assertEqual(count_orders(build(moved)), count_orders(tree))
            self.assertEqual(number_of(moved), number_of(order))
            self.assertEqual(next_order(moved), shifted(next_order(order), by))
            number = count_orders(tree) // 2
            self.assertEqual(order_at(build(moved), number), shifted(order_at(tree, number), by))
            some = zip(range(3), orders_of(tree), orders_of(build(moved)))
            self.assertTrue(all(after == shifted(before, by) for at, before, after in some))

    def test_present_keys(self):
        for order, by in itertools.product(orders_to_move(), SHIFTS):
            tree, present, fresh = build(order[::2]), sorted(order[::2]), order[1::2]
            turned = fresh[1:] + fresh[:1]
            self.assertEqual(grow(shifted(tree, by), shifted(fresh, by)), shifted(grow(tree, fresh), by))
            self.assertEqual(parts(shifted(present, by), shifted(fresh, by)), shifted(parts(present, fresh), by))
            moved = shifted(present, by), shifted(fresh, by), shifted(turned, by)
            self.assertIs(act_alike(*moved), act_alike(present, fresh, turned))
            self.assertEqual(separating_gap(*moved), separating_gap(present, fresh, turned))

    def test_hiding(self):
        for (first, second), by in itertools.product(pairs_to_move(), SHIFTS):
            moved = shifted(first, by), shifted(second, by)
            places, certificate = hiding_places(first, second), hiding_certificate(first, second)
            self.assertEqual(len(hiding_places(*moved)), len(places))
            self.assertEqual(len(hiding_certificate(*moved)), len(certificate))
            self.assertIs(alike_at(*moved, places), True)
            self.assertIs(alike_at(*moved, places[1:]), alike_at(first, second, places[1:]))
            self.assertIs(is_hiding_certificate(*moved, shifted(certificate, by)), True)
            self.assertIs(is_hiding_certificate(*moved, certificate), certificate == [])


class Negated(unittest.TestCase):
    def test_ancestry(self):
        for order in orders_to_move():
            other = negated(order)
            self.assertEqual(depths(other), depths(order))
            self.assertEqual(total(other), total(order))
            for one, two in zip(order, order[3:] + order[:3]):
                self.assertEqual(first_between(other, -two, -one), negated(first_between(order, one, two)))
                self.assertIs(is_above(other, -one, -two), is_above(order, one, two))
                self.assertEqual(ancestors(other, -one), negated(ancestors(order, one)))
                self.assertEqual(meeting(other, -one, -two), -meeting(order, one, two))

    def test_one_exchange(self):
        for order in orders_to_move():
            for position in range(len(order) - 1):
                self.assertEqual(exchanged(negated(order), position), negated(exchanged(order, position)))
                self.assertEqual(effect(negated(order), position), negated(effect(order, position)))

    def test_two_orders(self):
        for first, second in pairs_to_move():
            other = negated(first), negated(second)
            self.assertIs(same_tree(*other), same_tree(first, second))
            self.assertIs(difference(*other) is None, difference(first, second) is None)
            self.assertEqual(distance(*other), distance(first, second))
            if same_tree(first, second):
                self.assertEqual(len(exchanges(*other)), len(exchanges(first, second)))

    def test_counting(self):
        for order in orders_to_move():
            tree, other = build(order), mirrored(build(order))
            count = count_orders(tree)
            self.assertEqual(count_orders(other), count)
            # Of two lists of the same length, the negated one of the smaller is the greater one.
            self.assertEqual(number_of(negated(order)), count - 1 - number_of(order))
            for number in (0, count // 3, count - 1):
                self.assertEqual(order_at(other, count - 1 - number), negated(order_at(tree, number)))
            following = next_order(order)
            if following is not None:
                self.assertEqual(next_order(negated(following)), negated(order))

    def test_present_keys(self):
        for order in orders_to_move():
            tree, present, fresh = build(order[::2]), sorted(order[::2]), order[1::2]
            turned = fresh[1:] + fresh[:1]
            below, opposite = mirrored_list(present), negated(fresh)
            self.assertEqual(grow(mirrored(tree), opposite), mirrored(grow(tree, fresh)))
            self.assertEqual(parts(below, opposite), negated(parts(present, fresh))[::-1])
            alike = act_alike(present, fresh, turned)
            self.assertIs(act_alike(below, opposite, negated(turned)), alike)
            self.assertIs(separating_gap(below, opposite, negated(turned)) is None, alike)

    def test_hiding(self):
        for first, second in pairs_to_move():
            other = negated(first), negated(second)
            places, certificate = hiding_places(first, second), hiding_certificate(first, second)
            self.assertEqual(len(hiding_places(*other)), len(places))
            self.assertEqual(len(hiding_certificate(*other)), len(certificate))
            for some in (places, places[1:], places[:-1]):
                turned = [len(first) - place for place in reversed(some)]
                self.assertIs(alike_at(*other, turned), alike_at(first, second, some))
            turned = [(-high, -low) for low, high in reversed(certificate)]
            self.assertIs(is_hiding_certificate(*other, turned), True)
