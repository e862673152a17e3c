"""Point [2]: every function of stages 2 to 5 takes its arguments by position or by the names of the interface."""

import inspect
import itertools
import unittest

from insertionorders import ancestry, counting, exchanges, gaps
from insertionorders.trees import build

TREE = build([2, 1, 3])

# Each row is the function, its arguments in the order of the interface, and its result.
CALLS = (
    (ancestry.first_between, {"order": [2, 1, 3], "low": 0, "high": 1}, 1),
    (ancestry.is_above, {"order": [2, 1, 3], "upper": 2, "lower": 3}, True),
    (ancestry.ancestors, {"order": [2, 1, 3], "key": 3}, [2]),
    (ancestry.meeting, {"order": [2, 1, 3], "first": 1, "second": 3}, 2),
    (ancestry.depths, {"order": [3, 1, 2]}, [0, 1, 2]),
    (ancestry.total, {"order": [3, 1, 2]}, 3),
    (exchanges.exchanged, {"order": [2, 1, 3], "position": 1}, [2, 3, 1]),
    (exchanges.effect, {"order": [2, 1, 3], "position": 0}, 1),
    (exchanges.same_tree, {"first": [2, 1, 3], "second": [2, 3, 1]}, True),
    (exchanges.difference, {"first": [1, 2], "second": [2, 1]}, (1, [1], [2, 1])),
    (exchanges.distance, {"first": [1, 2, 3], "second": [3, 2, 1]}, 3),
    (exchanges.exchanges, {"first": [2, 1, 3], "second": [2, 3, 1]}, [1]),
    (exchanges.between, {"first": [2, 1, 3], "second": [2, 3, 1]}, [[2, 1, 3], [2, 3, 1]]),
    (counting.count_orders, {"tree": TREE}, 2),
    (counting.order_at, {"tree": TREE, "number": 1}, [2, 3, 1]),
    (counting.number_of, {"order": [2, 3, 1]}, 1),
    (counting.next_order, {"order": [2, 1, 3]}, [2, 3, 1]),
    (counting.orders_of, {"tree": TREE}, [[2, 1, 3], [2, 3, 1]]),
    (gaps.grow, {"tree": build([2]), "order": [1]}, ((1, 2), (2, None))),
    (gaps.parts, {"present": [5], "order": [7, 1, 3]}, [[1, 3], [7]]),
    (gaps.act_alike, {"present": [2], "first": [1, 3], "second": [3, 1]}, True),
    (gaps.separating_gap, {"present": [5], "first": [1, 2], "second": [2, 1]}, 0),
    (gaps.alike_at, {"first": [1, 3], "second": [3, 1], "places": [1]}, True),
    (gaps.hiding_places, {"first": [1, 3], "second": [3, 1]}, [1]),
    (gaps.hiding_certificate, {"first": [1, 3], "second": [3, 1]}, [(1, 3)]),
    (gaps.is_hiding_certificate, {"first": [1, 3], "second": [3, 1], "candidate": [(1, 3)]}, True),
)


def called(function, *arguments, **named):
    """Return the result of a call, a list of all elements if it is a generator."""
    result = function(*arguments, **named)
    return list(result) if inspect.isgenerator(result) else result


class ArgumentNames(unittest.TestCase):
    def same(self, result, expected):
        self.assertEqual(result, expected)
        self.assertIs(result.__class__, expected.__class__)

    def test_by_position(self):
        for function, arguments, expected in CALLS:
            with self.subTest(function.__name__):
                self.same(called(function, *arguments.values()), expected)

    def test_by_name_in_every_order(self):
        for function, arguments, expected in CALLS:
            for names in itertools.permutations(arguments):
                with self.subTest(function.__name__, names=names):
                    self.same(called(function, **{name: arguments[name] for name in names}), expected)

    def test_mixed(self):
        for function, arguments, expected in CALLS:
            first, *others = arguments
            with self.subTest(function.__name__):
                self.same(called(function, arguments[first], **{name: arguments[name] for name in others}), expected)

    def test_there_are_no_others(self):
        for function, arguments, expected in CALLS:
            with self.subTest(function.__name__):
                parameters = inspect.signature(function).parameters
                self.assertEqual(list(parameters), list(arguments))
                self.assertTrue(all(one.default is inspect.Parameter.empty for one in parameters.values()))

    def test_arguments_stay(self):
        for function, arguments, expected in CALLS:
            before = repr(arguments)
            called(function, **arguments)
            self.assertEqual(repr(arguments), before)

    def test_equal_calls(self):
        for function, arguments, expected in CALLS:
            for repeated in range(2):
                self.assertEqual(called(function, **arguments), expected)

    def test_lists_are_not_arguments(self):
        for function, arguments, expected in CALLS:
            result = called(function, **arguments)
            found = [result, *(result if isinstance(result, (list, tuple)) else [])]
            for one in found:
                if isinstance(one, list):
                    self.assertFalse(any(one is argument for argument in arguments.values()))
