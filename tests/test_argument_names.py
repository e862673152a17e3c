"""Point [2]: every function from stage 2 on takes its arguments by position or by the names of the interface."""

import inspect
import itertools
import unittest

from insertionorders import ancestry, counting, exchanges, facts, gaps, merges, observations, profiles, rotations, texts
from insertionorders.console import Console
from insertionorders.keeper import Keeper
from insertionorders.trees import build

TREE = build([2, 1, 3])
ASCENDING = build([1, 2, 3])
SURE = ("always", [[2, 1]])
BOTH = [(1, 2, True), (2, 1, True)]

# Each row is the function, its arguments in the order of the interface, and its result.
CALLS = (
    (ancestry.first_between, {"order": [2, 1, 3], "low": 0, "high": 1}, 1),
    (ancestry.is_above, {"order": [2, 1, 3], "upper": 2, "lower": 3}, True),
    (ancestry.ancestors, {"order": [2, 1, 3], "key": 3}, [2]),
    (ancestry.meeting, {"order": [2, 1, 3], "first": 1, "second": 3}, 2),
    (ancestry.depths, {"order": [3, 1, 2]}, [0, 1, 2]),
    (ancestry.total, {"order": [3, 1, 2]}, 3),
    (exchanges.exchanged, {"order": [2, 1, 3], "position": 1}, [2, 3, 1]),
    (exchanges.effect, {"order": [2, 1, 3], "position": 0}, 1),
    (exchanges.same_tree, {"first": [2, 1, 3], "second": [2, 3, 1]}, True),
    (exchanges.difference, {"first": [1, 2], "second": [2, 1]}, (1, [1], [2, 1])),
    (exchanges.distance, {"first": [1, 2, 3], "second": [3, 2, 1]}, 3),
    (exchanges.exchanges, {"first": [2, 1, 3], "second": [2, 3, 1]}, [1]),
    (exchanges.between, {"first": [2, 1, 3], "second": [2, 3, 1]}, [[2, 1, 3], [2, 3, 1]]),
    (counting.count_orders, {"tree": TREE}, 2),
    (counting.order_at, {"tree": TREE, "number": 1}, [2, 3, 1]),
    (counting.number_of, {"order": [2, 3, 1]}, 1),
    (counting.next_order, {"order": [2, 1, 3]}, [2, 3, 1]),
    (counting.orders_of, {"tree": TREE}, [[2, 1, 3], [2, 3, 1]]),
    (gaps.grow, {"tree": build([2]), "order": [1]}, ((1, 2), (2, None))),
    (gaps.parts, {"present": [5], "order": [7, 1, 3]}, [[1, 3], [7]]),
    (gaps.act_alike, {"present": [2], "first": [1, 3], "second": [3, 1]}, True),
    (gaps.separating_gap, {"present": [5], "first": [1, 2], "second": [2, 1]}, 0),
    (gaps.alike_at, {"first": [1, 3], "second": [3, 1], "places": [1]}, True),
    (gaps.hiding_places, {"first": [1, 3], "second": [3, 1]}, [1]),
    (gaps.hiding_certificate, {"first": [1, 3], "second": [3, 1]}, [(1, 3)]),
    (gaps.is_hiding_certificate, {"first": [1, 3], "second": [3, 1], "candidate": [(1, 3)]}, True),
    (rotations.rotated, {"tree": TREE, "key": 1}, ((1, None), (2, 1), (3, 2))),
    (rotations.rotation_order, {"tree": build([2, 1]), "key": 1}, ([2, 1], 0)),
    (rotations.intervals, {"tree": TREE}, [(1, 1), (1, 3), (3, 3)]),
    (rotations.missing_intervals, {"first": TREE, "second": ASCENDING}, [(1, 1)]),
    (rotations.route, {"first": TREE, "second": ASCENDING}, [1]),
    (rotations.is_route, {"first": TREE, "second": ASCENDING, "candidate": [1]}, True),
    (rotations.fewest_rotations, {"first": build([3, 2, 1]), "second": ASCENDING}, 2),
    (facts.check_facts, {"keys": [1, 2], "facts": [(1, 2)]}, None),
    (facts.kept_order, {"keys": [1, 2, 3], "facts": [(3, 1)]}, [2, 3, 1]),
    (facts.standing, {"keys": [1, 2], "facts": [(2, 1)], "upper": 2, "lower": 1}, SURE),
    (facts.is_standing, {"keys": [1, 2], "facts": [(2, 1)], "upper": 2, "lower": 1, "candidate": SURE}, True),
    (facts.sure_pairs, {"keys": [1, 2], "facts": [(2, 1)]}, [(2, 1)]),
    (facts.keeping_order, {"facts": [(3, 1)], "tree": TREE}, [2, 3, 1]),
    (facts.count_keeping, {"keys": [1, 2, 3], "facts": [(1, 2)]}, 3),
    (profiles.height_counts, {"size": 3}, [0, 0, 2, 4]),
    (profiles.total_counts, {"size": 3}, [0, 0, 2, 4]),
    (profiles.depth_counts, {"size": 2, "rank": 0}, [1, 1]),
    (profiles.least_total, {"size": 3}, 2),
    (profiles.greatest_total, {"size": 3}, 3),
    (profiles.flattest_order, {"keys": [5]}, [5]),
    (profiles.steepest_order, {"keys": [5]}, [5]),
    (profiles.kept_totals, {"keys": [1, 2], "facts": [(1, 2)]}, [0, 1]),
    (profiles.kept_depths, {"keys": [1, 2], "facts": [(1, 2)], "key": 2}, [0, 1]),
    (profiles.kept_heights, {"keys": [1, 2], "facts": [(1, 2)]}, [0, 0, 1]),
    (observations.fitting_tree, {"keys": [1, 2], "observations": [(2, 1, True)]}, ((1, 2), (2, None))),
    (observations.search_observations, {"keys": [1, 2, 3], "path": [2, 1]}, [(2, 1, True), (3, 1, False)]),
    (observations.answer, {"keys": [1, 2], "observations": [(2, 1, False)], "upper": 1, "lower": 2}, "always"),
    (observations.clash, {"keys": [1, 2], "observations": BOTH}, [0, 1]),
    (observations.is_clash, {"keys": [1, 2], "observations": BOTH, "candidate": [0, 1]}, True),
    (observations.best_question, {"keys": [1, 2], "observations": []}, (1, 2)),
    (merges.merges_building, {"first": [2], "second": [1, 3], "tree": TREE}, 1),
    (merges.merge_for, {"first": [2], "second": [1, 3], "tree": TREE}, ("order", [2, 1, 3])),
    (merges.is_merge_cycle, {"first": [1, 2], "second": [3], "tree": TREE, "candidate": [1, 2]}, True),
    (merges.merged_trees, {"first": [2], "second": [1]}, [(build([1, 2]), 1), (build([2, 1]), 1)]),
    (texts.format_order, {"order": [2, -1]}, "2 -1"),
    (texts.format_tree, {"tree": TREE}, "1<2 2<* 3<2"),
    (texts.parse_order, {"text": "2 -1"}, [2, -1]),
    (texts.parse_tree, {"text": "1<2 2<* 3<2"}, TREE),
)

# The methods of a keeper of three keys: the name, the arguments, and the result.
METHODS = (
    ("insert", {"user": "bob", "key": 9}, 3),
    ("withdraw", {"number": 1}, 1),
    ("withdraw_user", {"user": "ann"}, [2, 1, 3]),
    ("insert_all", {"user": "bob", "keys": [9, 8]}, [3, 4]),
    ("numbers", {}, [0, 1, 2]),
    ("path", {"key": 3}, [2, 3]),
    ("consequences", {"number": 0}, [1, 3]),
    ("move", {"number": 0, "position": 2}, None),
    ("set_limit", {"limit": 7}, None),
    ("undo", {}, None),
    ("user_of", {"number": 2}, "ann"),
    ("trial", {"numbers": [0, 2]}, ((1, None),)),
    ("clone", {}, Keeper.of("ann", [2, 1, 3])),
)

# The same for the functions whose last argument is taken by its name only, and may be left out.
WITH_A_HEIGHT = (
    (observations.fitting_trees, {"keys": [1, 2, 3], "observations": [(2, 1, True)], "max_height": 2}, 1, 2),
    (observations.fitting_orders, {"keys": [1, 2, 3], "observations": [(2, 1, True)], "max_height": 2}, 2, 3),
)


def called(function, *arguments, **named):
    """Return the result of a call, a list of all elements if it is a generator."""
    result = function(*arguments, **named)
    return list(result) if inspect.isgenerator(result) else result


def lists_in(value):
    """Return all lists in a value, those inside of others too."""
    inner = [one for item in value for one in lists_in(item)] if isinstance(value, (list, tuple)) else []
    return [value] + inner if isinstance(value, list) else inner


class ArgumentNames(unittest.TestCase):
    def same(self, result, expected):
        self.assertEqual(result, expected)
        self.assertIs(result.__class__, expected.__class__)

    def test_by_position(self):
        for function, arguments, expected in CALLS:
            with self.subTest(function.__name__):
                self.same(called(function, *arguments.values()), expected)

    def test_by_name_in_every_order(self):
        for function, arguments, expected in CALLS:
            for names in itertools.permutations(arguments):
                with self.subTest(function.__name__, names=names):
                    self.same(called(function, **{name: arguments[name] for name in names}), expected)

    def test_mixed(self):
        for function, arguments, expected in CALLS:
            first, *others = arguments
            with self.subTest(function.__name__):
                self.same(called(function, arguments[first], **{name: arguments[name] for name in others}), expected)

    def test_methods(self):
        for name, arguments, expected in METHODS:
            for names in itertools.permutations(arguments):
                given = {one: arguments[one] for one in names}
                before = repr(arguments)
                with self.subTest(name, names=names):
                    self.same(getattr(Keeper.of("ann", [2, 1, 3]), name)(**given), expected)
                    self.assertEqual(repr(arguments), before)
            self.same(getattr(Keeper.of("ann", [2, 1, 3]), name)(*arguments.values()), expected)
            self.assertEqual(list(inspect.signature(getattr(Keeper, name)).parameters), ["self", *arguments])

    def test_making_keepers_and_consoles(self):
        self.assertEqual(Keeper(limit=3), Keeper(3))
        self.assertEqual(Keeper(), Keeper(limit=40))
        self.assertEqual(Keeper.of(user="ann", order=[2, 1]), Keeper.of("ann", [2, 1]))
        self.assertEqual(Keeper.of(order=[2, 1], user="ann"), Keeper.of("ann", [2, 1]))
        self.assertEqual(Console().run(line="order"), "-")

    def test_any_number_of_orders(self):
        self.assertEqual(merges.count_merges([1], [2], [3]), 6)
        self.assertRaises(TypeError, merges.count_merges, orders=[[1], [2]])

    def test_by_name_only(self):
        for function, arguments, expected, without in WITH_A_HEIGHT:
            for names in itertools.permutations(arguments):
                with self.subTest(function.__name__, names=names):
                    self.same(function(**{name: arguments[name] for name in names}), expected)
            keys, known, most = arguments.values()
            self.same(function(keys, known, max_height=most), expected)
            self.same(function(keys, known), without)
            self.same(function(observations=known, keys=keys), without)
            self.same(function(keys, known, max_height=None), without)
            self.assertRaises(TypeError, function, keys, known, most)
            parameters = inspect.signature(function).parameters
            self.assertEqual(list(parameters), list(arguments))
            self.assertIs(parameters["max_height"].kind, inspect.Parameter.KEYWORD_ONLY)

    def test_there_are_no_others(self):
        for function, arguments, expected in CALLS:
            with self.subTest(function.__name__):
                parameters = inspect.signature(function).parameters
                self.assertEqual(list(parameters), list(arguments))
                self.assertTrue(all(one.default is inspect.Parameter.empty for one in parameters.values()))

    def test_arguments_stay(self):
        for function, arguments, expected in CALLS:
            before = repr(arguments)
            called(function, **arguments)
            self.assertEqual(repr(arguments), before)

    def test_equal_calls(self):
        for function, arguments, expected in CALLS:
            for repeated in range(2):
                self.assertEqual(called(function, **arguments), expected)

    def test_changed_results_change_nothing(self):
        for function, arguments, expected in CALLS:
            before = repr((arguments, expected))
            result = called(function, **arguments)
            found = lists_in(result)
            with self.subTest(function.__name__):
                self.assertEqual(len({id(one) for one in found}), len(found))
                for one in found:
                    one.clear()
                    one.append(None)
                self.assertEqual(repr((arguments, expected)), before)
                self.same(called(function, **arguments), expected)
