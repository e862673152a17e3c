"""Point [4]: keys and orders."""

import unittest

from insertionorders.errors import InvalidOrder
from insertionorders.orders import MAX_KEY, MAX_KEYS, check_order, is_key
from insertionorders.trees import build
from tests.support import LIMIT, Awkward, other_objects, raised, sample_orders

# check_order and build say in the same way what is not an order.
CHECKING = (check_order, build)


class Keys(unittest.TestCase):
    def test_limits(self):
        self.assertEqual((MAX_KEYS, MAX_KEY), (40, 10 ** 18))

    def test_keys(self):
        for key in (0, 1, -1, 7, 10 ** 9, LIMIT - 1, LIMIT, -LIMIT, 1 - LIMIT):
            self.assertIs(is_key(key), True)

    def test_other_objects(self):
        for candidate in [None, [], (), LIMIT + 1, -LIMIT - 1] + other_objects():
            with self.subTest(kind=candidate.__class__):
                self.assertIs(is_key(candidate), False)


class Orders(unittest.TestCase):
    def refused(self, candidate, position):
        for check in CHECKING:
            error = raised(check, candidate)
            self.assertIs(error.__class__, InvalidOrder)
            self.assertIs(error.position.__class__, position.__class__)
            self.assertEqual(error.position, position)

    def test_orders(self):
        for order in sample_orders() + [[], [LIMIT, -LIMIT], list(range(40))]:
            before = list(order)
            self.assertIsNone(check_order(order))
            self.assertEqual(order, before)

    def test_not_a_list(self):
        for candidate in [None, (), (1, 2), 1] + other_objects():
            if not isinstance(candidate, list):
                with self.subTest(kind=candidate.__class__):
                    self.refused(candidate, None)

    def test_too_many(self):
        self.refused(list(range(41)), None)
        self.refused(list(range(1000)), None)
        self.refused([1] * 41, None)
        self.refused([None] * 41, None)

    def test_element_that_is_not_a_key(self):
        for length in (1, 2, 5, 40):
            for position in sorted({0, length // 2, length - 1}):
                for element in [None, [], ()] + other_objects():
                    order = list(range(length))
                    order[position] = element
                    with self.subTest(length=length, position=position, kind=element.__class__):
                        self.refused(order, position)
                        self.assertIs(order[position], element)

    def test_repeated_element(self):
        for length in (2, 3, 40):
            for later in range(1, length):
                for earlier in range(later):
                    order = list(range(length))
                    order[later] = order[earlier]
                    before = list(order)
                    self.refused(order, later)
                    self.assertEqual(order, before)

    def test_first_of_several(self):
        self.refused([1, 2, 1, 2], 2)
        self.refused([1, 1, None], 1)
        self.refused([1, None, 1], 1)
        self.refused([Awkward(), Awkward()], 0)
        self.refused([1, 2, True, 1], 2)
        self.refused([0, False], 1)
        self.refused([LIMIT, LIMIT + 1, LIMIT], 1)
        self.refused([3, [3], [3]], 1)
