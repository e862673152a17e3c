"""The examples of the interface from rotations on, as they stand there."""

import doctest
import unittest

from insertionorders.errors import ParseError
from insertionorders.texts import parse_order
from insertionorders.trees import build
from tests.support import raised

ROTATIONS = """
>>> from insertionorders.rotations import rotated
>>> rotated(build([2, 1, 3]), 1)
((1, None), (2, 1), (3, 2))
>>> from insertionorders.rotations import rotation_order
>>> rotation_order(build([2, 1]), 1)
([2, 1], 0)
>>> from insertionorders.rotations import intervals
>>> intervals(build([2, 1, 3]))
[(1, 1), (1, 3), (3, 3)]
>>> from insertionorders.rotations import missing_intervals
>>> missing_intervals(build([2, 1, 3]), build([1, 2, 3]))
[(1, 1)]
>>> from insertionorders.rotations import route
>>> route(build([2, 1, 3]), build([1, 2, 3]))
[1]
>>> from insertionorders.rotations import is_route
>>> is_route(build([2, 1]), build([1, 2]), [1])
True
>>> from insertionorders.rotations import fewest_rotations
>>> fewest_rotations(build([3, 2, 1]), build([1, 2, 3]))
2
"""

FACTS = """
>>> from insertionorders.facts import check_facts
>>> check_facts([1, 2], [(1, 2)]) is None
True
>>> from insertionorders.facts import kept_order
>>> kept_order([1, 2, 3], [(3, 1)])
[2, 3, 1]
>>> from insertionorders.facts import standing
>>> standing([1, 2], [(2, 1)], 2, 1)
('always', [[2, 1]])
>>> from insertionorders.facts import is_standing
>>> is_standing([1, 2], [], 1, 2, ('open', [1, 2], [2, 1]))
True
>>> from insertionorders.facts import sure_pairs
>>> sure_pairs([1, 2], [(2, 1)])
[(2, 1)]
>>> from insertionorders.facts import keeping_order
>>> keeping_order([(3, 1)], build([2, 1, 3]))
[2, 3, 1]
>>> from insertionorders.facts import count_keeping
>>> count_keeping([1, 2, 3], [(1, 2)])
3
"""

PROFILES = """
>>> from insertionorders.profiles import height_counts
>>> height_counts(3)
[0, 0, 2, 4]
>>> from insertionorders.profiles import total_counts
>>> total_counts(3)
[0, 0, 2, 4]
>>> from insertionorders.profiles import depth_counts
>>> depth_counts(2, 0)
[1, 1]
>>> from insertionorders.profiles import least_total
>>> least_total(3)
2
>>> from insertionorders.profiles import greatest_total
>>> greatest_total(3)
3
>>> from insertionorders.profiles import flattest_order
>>> flattest_order([5])
[5]
>>> from insertionorders.profiles import steepest_order
>>> steepest_order([5])
[5]
>>> from insertionorders.profiles import kept_totals
>>> kept_totals([1, 2], [(1, 2)])
[0, 1]
>>> from insertionorders.profiles import kept_depths
>>> kept_depths([1, 2], [(1, 2)], 2)
[0, 1]
>>> from insertionorders.profiles import kept_heights
>>> kept_heights([1, 2], [(1, 2)])
[0, 0, 1]
"""

OBSERVATIONS = """
>>> from insertionorders.observations import fitting_trees
>>> fitting_trees([1, 2, 3], [(2, 1, True)])
2
>>> from insertionorders.observations import fitting_orders
>>> fitting_orders([1, 2, 3], [(2, 1, True)])
3
>>> from insertionorders.observations import fitting_tree
>>> fitting_tree([1, 2], [(2, 1, True)])
((1, 2), (2, None))
>>> from insertionorders.observations import search_observations
>>> search_observations([1, 2, 3], [2, 1])
[(2, 1, True), (3, 1, False)]
>>> from insertionorders.observations import answer
>>> answer([1, 2], [(2, 1, False)], 1, 2)
'always'
>>> from insertionorders.observations import clash
>>> clash([1, 2], [(1, 2, True), (2, 1, True)])
[0, 1]
>>> from insertionorders.observations import is_clash
>>> is_clash([1, 2], [(1, 2, True), (2, 1, True)], [0, 1])
True
>>> from insertionorders.observations import best_question
>>> best_question([1, 2], [])
(1, 2)
"""

MERGES = """
>>> from insertionorders.merges import count_merges
>>> count_merges([1, 2], [3])
3
>>> count_merges()
1
>>> from insertionorders.merges import merges_building
>>> merges_building([1], [2], build([1, 2]))
1
>>> from insertionorders.merges import merge_for
>>> merge_for([1], [2], build([2, 1]))
('order', [2, 1])
>>> from insertionorders.merges import is_merge_cycle
>>> is_merge_cycle([1, 2], [], build([2, 1]), [1, 2])
True
>>> from insertionorders.merges import merged_trees
>>> merged_trees([1], [2])
[(((1, None), (2, 1)), 1), (((1, 2), (2, None)), 1)]
"""

TEXTS = """
>>> from insertionorders.texts import format_order
>>> format_order([2, -1])
'2 -1'
>>> from insertionorders.texts import format_tree
>>> format_tree(build([2, 1]))
'1<2 2<*'
>>> from insertionorders.texts import parse_tree
>>> parse_tree('1<2 2<*')
((1, 2), (2, None))
"""

KEEPER = """
>>> from insertionorders.keeper import Keeper
>>> keeper = Keeper.of('ann', [2, 1, 3])
>>> keeper.withdraw(0)
2
>>> keeper.tree
((1, None), (3, 1))
"""

CONSOLE = """
>>> from insertionorders.console import Console
>>> console = Console()
>>> console.run('insert ann 2')
'0'
>>> console.run('tree')
'2<*'
"""


class Examples(unittest.TestCase):
    def run_examples(self, text):
        examples = doctest.DocTestParser().get_doctest(text, {"build": build}, "interface", None, 0)
        results = doctest.DocTestRunner(verbose=False).run(examples)
        self.assertEqual(results.failed, 0)
        self.assertGreaterEqual(results.attempted, text.count("import"))

    def test_rotations(self):
        self.run_examples(ROTATIONS)

    def test_facts(self):
        self.run_examples(FACTS)

    def test_profiles(self):
        self.run_examples(PROFILES)

    def test_observations(self):
        self.run_examples(OBSERVATIONS)

    def test_merges(self):
        self.run_examples(MERGES)

    def test_texts(self):
        self.run_examples(TEXTS)
        error = raised(parse_order, '2 x')
        self.assertIs(error.__class__, ParseError)
        self.assertEqual(error.word, 1)

    def test_keeper(self):
        self.run_examples(KEEPER)

    def test_console(self):
        self.run_examples(CONSOLE)
