"""Point [26]: what a keeper tells, and keepers as objects."""

import itertools
import unittest

from insertionorders.errors import InvalidOrder, InvalidUser, NothingToUndo, UnknownInsertion, UnknownKey
from insertionorders.keeper import Keeper
from tests.support import Awkward, linked, linked_pairs, linked_path, long_orders, not_orders, other_objects, raised
from tests.support import sample_orders, shuffled, unknown_keys

METHODS = """
    insert withdraw withdraw_user insert_all numbers path consequences move set_limit undo user_of trial clone of
    order tree total height limit MAX_LIMIT __len__ __eq__ __init__
""".split()


def state_of(keeper):
    """Return all that a keeper tells about itself."""
    numbers = keeper.numbers()
    users = [keeper.user_of(number) for number in numbers]
    return (keeper.order, numbers, users, keeper.tree, keeper.total, keeper.height, keeper.limit, len(keeper))


def mixed_keeper():
    """Return a keeper with insertions of three users, some of them withdrawn or moved, and commands to undo."""
    keeper = Keeper(30)
    for at, key in enumerate(shuffled(range(0, 60, 3), 5)):
        keeper.insert(("ann", "bob", "zoe")[at % 3], key)
    keeper.withdraw(4)
    keeper.move(7, 0)
    keeper.insert_all("ann", [100, 50, -7])
    keeper.set_limit(25)
    keeper.withdraw(0)
    return keeper


class Queries(unittest.TestCase):
    def test_new_keeper(self):
        self.assertEqual(state_of(Keeper()), ([], [], [], (), 0, 0, 40, 0))
        self.assertEqual(state_of(Keeper(3)), ([], [], [], (), 0, 0, 3, 0))
        self.assertEqual(state_of(Keeper(limit=1)), ([], [], [], (), 0, 0, 1, 0))
        self.assertEqual(Keeper.MAX_LIMIT, 40)
        self.assertEqual(Keeper().MAX_LIMIT, 40)

    def test_each_is_in_the_class_itself(self):
        for name in METHODS:
            self.assertIn(name, vars(Keeper))
        for name in ("order", "tree", "total", "height", "limit"):
            self.assertIsInstance(vars(Keeper)[name], property)
        self.assertIsInstance(vars(Keeper)["of"], classmethod)

    def test_path(self):
        for order in sample_orders()[::7]:
            keeper = Keeper.of("ann", order)
            nodes = linked(order)
            for key in order:
                self.assertEqual(keeper.path(key), linked_path(nodes[key]))

    def test_path_after_withdrawals(self):
        keeper = mixed_keeper()
        nodes = linked(keeper.order)
        for key in keeper.order:
            self.assertEqual(keeper.path(key), linked_path(nodes[key]))
        error = raised(keeper.path, 4)
        self.assertEqual((error.__class__, error.key), (UnknownKey, 4))

    def test_unknown_keys(self):
        for keeper in (Keeper(), Keeper.of("ann", [1, 2]), Keeper.of("ann", list(range(1, 41)))):
            for key in unknown_keys():
                error = raised(keeper.path, key)
                with self.subTest(kind=key.__class__):
                    self.assertIs(error.__class__, UnknownKey)
                    self.assertIs(error.key, key)

    def test_consequences(self):
        for order in sample_orders()[::3]:
            keeper = Keeper.of("ann", order)
            before = state_of(keeper)
            parents = dict(linked_pairs(order))
            for number, key in enumerate(order):
                after = dict(linked_pairs([other for other in order if other != key]))
                expected = [other for other in sorted(after) if after[other] != parents[other]]
                self.assertEqual(keeper.consequences(number), expected)
            self.assertEqual(state_of(keeper), before)

    def test_consequences_of_other_numbers(self):
        keeper = mixed_keeper()
        for number in keeper.numbers():
            parents = dict(keeper.tree)
            after = dict(keeper.trial([number]))
            expected = sorted(key for key in after if after[key] != parents[key])
            self.assertEqual(keeper.consequences(number), expected)

    def test_trial(self):
        keeper = mixed_keeper()
        before = state_of(keeper)
        numbers = keeper.numbers()
        for some in itertools.chain([[]], ([one] for one in numbers), ([one, 5] for one in numbers if one != 5),
                                    (shuffled(numbers, seed)[:seed] for seed in range(len(numbers) + 1))):
            chosen = list(some)
            order = [key for number, key in zip(numbers, keeper.order) if number not in some]
            self.assertEqual(keeper.trial(chosen), linked_pairs(order))
            self.assertEqual(chosen, list(some))
            self.assertEqual(state_of(keeper), before)

    def test_trial_that_fails(self):
        keeper = Keeper.of("ann", [5, 6, 7])
        keeper.withdraw(1)
        before = state_of(keeper)
        for some, number in (([0, 0], 0), ([2, 0, 2], 2), ([1], 1), ([0, 3], 3), ([0, 9, 9, 0], 9), ([0, 2, 0], 0)):
            error = raised(keeper.trial, some)
            self.assertEqual((error.__class__, error.number), (UnknownInsertion, number))
        for other in [None, True, False, 0.0, "0", [], Awkward()]:
            error = raised(keeper.trial, [2, other])
            self.assertIs(error.__class__, UnknownInsertion)
            self.assertIs(error.number, other)
        self.assertEqual(state_of(keeper), before)
        self.assertEqual(keeper.trial([]), keeper.tree)
        self.assertEqual(keeper.trial([2, 0]), ())

    def test_returned_lists_are_new(self):
        keeper = mixed_keeper()
        before = state_of(keeper)
        for call in (lambda: keeper.order, keeper.numbers, lambda: keeper.path(50), lambda: keeper.consequences(5)):
            self.assertIsNot(call(), call())
            call().clear()
            call().append(None)
        self.assertEqual(state_of(keeper), before)

    def test_properties_cannot_be_assigned(self):
        keeper = Keeper.of("ann", [1])
        for name in ("order", "tree", "total", "height", "limit"):
            self.assertIs(raised(setattr, keeper, name, 3).__class__, AttributeError)


class Equality(unittest.TestCase):
    def test_keepers(self):
        one, other = Keeper.of("ann", [2, 1]), Keeper.of("ann", [2, 1])
        self.assertTrue(one == other)
        self.assertFalse(one != other)
        other.withdraw(1)
        self.assertFalse(one == other)
        other.undo()
        self.assertTrue(one == other)
        other.set_limit(39)
        self.assertTrue(one != other)

    def test_what_makes_a_difference(self):
        keeper = Keeper.of("ann", [2, 1])
        users, numbers, order = Keeper.of("ann", [2]), Keeper.of("ann", [3, 2]), Keeper.of("ann", [1, 2])
        users.insert("bob", 1)
        numbers.withdraw(0)
        numbers.insert("ann", 1)
        self.assertEqual(numbers.order, keeper.order)
        self.assertEqual(users.order, keeper.order)
        for other in (users, numbers, order, Keeper(), Keeper.of("bob", [2, 1]), Keeper.of("ann", [2, 1, 3])):
            self.assertFalse(keeper == other)
            self.assertTrue(keeper != other)

    def test_what_makes_none(self):
        keeper, other = Keeper(40), Keeper(40)
        keeper.insert_all("ann", [2, 1])
        other.insert("ann", 2)
        other.insert("ann", 1)
        self.assertEqual((len(keeper), len(other)), (1, 2))
        self.assertTrue(keeper == other)
        other.insert("ann", 9)
        other.withdraw(2)
        self.assertTrue(keeper == other)

    def test_other_objects(self):
        for keeper in (Keeper(), Keeper.of("ann", [1])):
            for other in [None, 0, [], (), keeper.order, keeper.tree, (40, [(0, "ann", 1)]), Keeper] + other_objects():
                if not isinstance(other, Awkward):
                    with self.subTest(kind=other.__class__):
                        self.assertIs(keeper == other, False)
                        self.assertIs(keeper != other, True)
            self.assertIs(keeper.__eq__(Awkward()), False)


class Clones(unittest.TestCase):
    def test_equal(self):
        keeper = mixed_keeper()
        copied = keeper.clone()
        self.assertIsNot(copied, keeper)
        self.assertIs(copied.__class__, Keeper)
        self.assertEqual(copied, keeper)
        self.assertEqual(state_of(copied), state_of(keeper))

    def test_independent_in_both_directions(self):
        commands = (("insert", "eve", 999), ("withdraw", 6), ("withdraw_user", "ann"), ("move", 6, 2),
                    ("set_limit", 40), ("insert_all", "eve", [998, 997]), ("insert_all", "eve", []), ("undo",))
        for turned in (False, True):
            for name, *arguments in commands:
                keeper = mixed_keeper()
                before = state_of(keeper)
                one, other = (keeper.clone(), keeper) if turned else (keeper, keeper.clone())
                getattr(one, name)(*arguments)
                self.assertNotEqual(state_of(one), before)
                self.assertEqual(state_of(other), before)
                while len(one):
                    one.undo()
                self.assertEqual(state_of(other), before)
                while len(other):
                    other.undo()
                self.assertEqual(state_of(other), state_of(one))

    def test_same_commands_to_undo(self):
        keeper = mixed_keeper()
        copied = keeper.clone()
        while len(keeper):
            keeper.undo()
            copied.undo()
            self.assertEqual(state_of(copied), state_of(keeper))
        self.assertIs(raised(copied.undo).__class__, NothingToUndo)

    def test_same_next_number(self):
        keeper = mixed_keeper()
        keeper.withdraw(keeper.numbers()[-1])
        copied = keeper.clone()
        number = keeper.insert("ann", 1000)
        self.assertEqual(copied.insert("bob", 2000), number)
        self.assertEqual(copied.insert_all("bob", [3000, 4000]), [number + 1, number + 2])
        self.assertNotEqual(copied, keeper)

    def test_clone_is_no_command(self):
        keeper = Keeper()
        keeper.clone()
        self.assertEqual(len(keeper), 0)
        self.assertEqual(len(keeper.clone().clone()), 0)


class Of(unittest.TestCase):
    def test_as_if_inserted(self):
        for order in long_orders():
            keeper, plain = Keeper.of("ann", order), Keeper()
            for key in order:
                plain.insert("ann", key)
            self.assertEqual(keeper, plain)
            self.assertEqual(state_of(keeper), state_of(plain))
            self.assertEqual((keeper.limit, len(keeper)), (40, len(order)))
            self.assertEqual(keeper.tree, linked_pairs(order))
            keeper.undo()
            self.assertEqual(keeper.order, order[:-1])

    def test_order_is_not_kept(self):
        order = [2, 1, 3]
        keeper = Keeper.of("ann", order)
        order.clear()
        keeper.withdraw(0)
        self.assertEqual((order, keeper.order), ([], [1, 3]))

    def test_no_keys(self):
        self.assertEqual(Keeper.of("ann", []), Keeper())
        self.assertIs(raised(Keeper.of, "", []).__class__, InvalidUser)

    def test_errors(self):
        for wrong, position in not_orders():
            error = raised(Keeper.of, "ann", wrong)
            with self.subTest(kind=wrong.__class__):
                self.assertIs(error.__class__, InvalidOrder)
                self.assertEqual(error.position, position)
                error = raised(Keeper.of, "Ann", wrong)
                self.assertEqual((error.__class__, error.value), (InvalidUser, "Ann"))
