"""Point [25]: the commands of a keeper, against a plain list of tuples (number, user, key)."""

import unittest

from insertionorders.errors import DuplicateKey, InvalidKey, InvalidPosition, InvalidSize, InvalidUser, NothingToUndo
from insertionorders.errors import TooLarge, UnknownInsertion
from insertionorders.keeper import Keeper
from tests.support import LIMIT, linked, linked_pairs, linked_path, other_objects, raised

USERS = ("ann", "bob", "zoe", "abcdefgh")
NO_USERS = ("", "Ann", "abcdefghi", "an n", None, 3, "\u00e4nn")


class Plain:
    """What a keeper must hold: a plain list of insertions, and all earlier states of it."""

    def __init__(self, limit=40):
        self.limit = limit
        self.kept = []
        self.following = 0
        self.states = []

    def remember(self):
        self.states.append((self.limit, list(self.kept), self.following))

    def keys(self):
        return [key for number, user, key in self.kept]

    def numbers(self):
        return [number for number, user, key in self.kept]

    def wrong_insertion(self, user, key, more=()):
        """Return the error of an insertion after the kept keys and some more, None if there is none."""
        if not is_user(user):
            return (InvalidUser, "value", user)
        if not is_plain_integer(key) or abs(key) > LIMIT:
            return (InvalidKey, "value", key)
        if key in self.keys() or key in more:
            return (DuplicateKey, "key", key)
        if len(self.kept) + len(more) + 1 > self.limit:
            return (TooLarge, "amount", len(self.kept) + len(more) + 1)
        return None

    def wrong_number(self, number):
        if not is_plain_integer(number) or number not in self.numbers():
            return (UnknownInsertion, "number", number)
        return None

    def insert(self, user, key):
        wrong = self.wrong_insertion(user, key)
        if wrong:
            return wrong, None
        self.remember()
        self.kept.append((self.following, user, key))
        self.following += 1
        return None, self.following - 1

    def insert_all(self, user, keys):
        for at, key in enumerate(keys):
            wrong = self.wrong_insertion(user, key, keys[:at])
            if wrong:
                return wrong, None
        self.remember()
        numbers = list(range(self.following, self.following + len(keys)))
        self.kept += [(number, user, key) for number, key in zip(numbers, keys)]
        self.following += len(keys)
        return None, numbers

    def withdraw(self, number):
        wrong = self.wrong_number(number)
        if wrong:
            return wrong, None
        self.remember()
        at = self.numbers().index(number)
        return None, self.kept.pop(at)[2]

    def withdraw_user(self, user):
        if not is_user(user):
            return (InvalidUser, "value", user), None
        self.remember()
        keys = [key for number, other, key in self.kept if other == user]
        self.kept = [one for one in self.kept if one[1] != user]
        return None, keys

    def move(self, number, position):
        wrong = self.wrong_number(number)
        if wrong:
            return wrong, None
        if not is_plain_integer(position) or not 0 <= position < len(self.kept):
            return (InvalidPosition, "value", position), None
        self.remember()
        one = self.kept.pop(self.numbers().index(number))
        self.kept.insert(position, one)
        return None, None

    def set_limit(self, limit):
        if not is_plain_integer(limit) or not 1 <= limit <= 40:
            return (InvalidSize, "value", limit), None
        if len(self.kept) > limit:
            return (TooLarge, "amount", len(self.kept)), None
        self.remember()
        self.limit = limit
        return None, None

    def undo(self):
        if not self.states:
            return (NothingToUndo, None, None), None
        self.limit, self.kept, self.following = self.states.pop()
        return None, None


def is_plain_integer(value):
    return value.__class__ is int


def is_user(value):
    return value.__class__ is str and 1 <= len(value) <= 8 and all("a" <= letter <= "z" for letter in value)


class Choices:
    """Choices that depend on a seed only."""

    def __init__(self, seed):
        self.state = seed

    def below(self, amount):
        self.state = (self.state * 1103515245 + 12345) % 2 ** 31
        return (self.state >> 8) % amount

    def one_of(self, values):
        return values[self.below(len(values))]


def a_command(choices, plain):
    """Return the name of a command and its arguments, of which some make it fail."""
    known = plain.numbers() + [plain.following, -1]
    number = choices.one_of(known + [True, None, "0", 10 ** 6] if choices.below(6) == 0 else known)
    key = choices.one_of([True, None, LIMIT + 1, "1", 1.0, []]) if choices.below(15) == 0 else choices.below(60) - 30
    user = choices.one_of(NO_USERS if choices.below(15) == 0 else USERS)
    position = choices.below(len(plain.kept) + 2) - choices.below(2)
    return choices.one_of((
        ("insert", user, key), ("insert", user, key), ("insert", user, key), ("insert", user, key),
        ("insert_all", user, [choices.below(90) - 45 for repeated in range(choices.below(5))]),
        ("insert_all", user, [choices.below(900), key]),
        ("withdraw", number), ("withdraw", number), ("withdraw_user", user), ("move", number, position),
        ("move", number, choices.one_of([None, True, -1, 40])),
        ("set_limit", choices.one_of([0, 1, 5, 12, 30, 40, 41, True, None, "5"])), ("undo",), ("undo",),
    ))


class Commands(unittest.TestCase):
    def same_state(self, keeper, plain):
        order = plain.keys()
        self.assertEqual(keeper.order, order)
        self.assertEqual(keeper.numbers(), plain.numbers())
        users = [user for number, user, key in plain.kept]
        self.assertEqual([keeper.user_of(number) for number in keeper.numbers()], users)
        self.assertEqual(keeper.tree, linked_pairs(order))
        nodes = linked(order)
        depths = [len(linked_path(nodes[key])) - 1 for key in order]
        self.assertEqual(keeper.total, sum(depths))
        self.assertEqual(keeper.height, max(depths, default=-1) + 1)
        self.assertEqual(keeper.limit, plain.limit)
        self.assertEqual(len(keeper), len(plain.states))

    def perform(self, keeper, plain, name, *arguments):
        """Perform a command on both, and compare the results, the errors and what is left."""
        before = repr(arguments)
        result = error = None
        try:
            result = getattr(keeper, name)(*arguments)
        except Exception as found:
            error = found
        wrong, expected = getattr(plain, name)(*arguments)
        with self.subTest(name=name, arguments=arguments):
            if wrong is None:
                self.assertIsNone(error)
                self.assertEqual(result, expected)
                self.assertIs(result.__class__, expected.__class__)
            else:
                kind, field, value = wrong
                self.assertIs(error.__class__, kind)
                if field is not None:
                    self.assertEqual(getattr(error, field), value)
                    self.assertIs(getattr(error, field).__class__, value.__class__)
            self.same_state(keeper, plain)
            self.assertEqual(repr(arguments), before)
        return wrong

    def test_long_sequences(self):
        failed, done = set(), set()
        for seed in range(25):
            keeper, plain, choices = Keeper(), Plain(), Choices(seed)
            for repeated in range(120):
                name, *arguments = a_command(choices, plain)
                wrong = self.perform(keeper, plain, name, *arguments)
                (failed if wrong else done).add((name, wrong[0]) if wrong else name)
            while plain.states:
                self.perform(keeper, plain, "undo")
            self.perform(keeper, plain, "undo")
            self.assertEqual(keeper, Keeper())
        self.assertEqual(done, {"insert", "insert_all", "withdraw", "withdraw_user", "move", "set_limit", "undo"})
        for kind in (InvalidUser, InvalidKey, DuplicateKey, TooLarge):
            self.assertIn(("insert", kind), failed)
            self.assertIn(("insert_all", kind), failed)
        for expected in (("withdraw", UnknownInsertion), ("withdraw_user", InvalidUser), ("move", UnknownInsertion),
                         ("move", InvalidPosition), ("set_limit", InvalidSize), ("set_limit", TooLarge),
                         ("undo", NothingToUndo)):
            self.assertIn(expected, failed)

    def test_numbers_are_not_used_again(self):
        keeper = Keeper()
        self.assertEqual(keeper.insert("ann", 5), 0)
        self.assertEqual(keeper.withdraw(0), 5)
        self.assertEqual(keeper.insert("ann", 5), 1)
        self.assertEqual(keeper.withdraw_user("ann"), [5])
        self.assertEqual(keeper.insert("bob", 5), 2)
        keeper.undo()
        self.assertEqual(keeper.insert("bob", 6), 2)
        self.assertEqual(keeper.insert_all("bob", [7, 8]), [3, 4])
        keeper.undo()
        self.assertEqual(keeper.insert_all("ann", [9]), [3])
        raised(keeper.insert, "ann", 9)
        raised(keeper.insert_all, "ann", [10, 11, 9])
        self.assertEqual(keeper.insert("ann", 10), 4)

    def test_withdraw_in_the_middle(self):
        keeper = Keeper.of("ann", [4, 2, 6, 1, 3, 5, 7])
        self.assertEqual(keeper.withdraw(1), 2)
        self.assertEqual(keeper.tree, linked_pairs([4, 6, 1, 3, 5, 7]))
        self.assertEqual(keeper.withdraw(0), 4)
        self.assertEqual(keeper.tree, linked_pairs([6, 1, 3, 5, 7]))
        self.assertEqual(keeper.numbers(), [2, 3, 4, 5, 6])
        keeper.undo()
        keeper.undo()
        self.assertEqual(keeper, Keeper.of("ann", [4, 2, 6, 1, 3, 5, 7]))

    def test_each_move(self):
        for size in range(1, 6):
            for number in range(size):
                for position in range(size):
                    keeper, plain = Keeper.of("ann", list(range(size))), Plain()
                    for key in range(size):
                        plain.insert("ann", key)
                    self.perform(keeper, plain, "move", number, position)
                    self.assertEqual(keeper.numbers()[position], number)
                    self.perform(keeper, plain, "undo")


class OneCommand(unittest.TestCase):
    def test_insert_all_or_none(self):
        keeper = Keeper(limit=3)
        keeper.insert("ann", 1)
        before = keeper.clone()
        for keys, kind, field, value in (
                ([2, 1], DuplicateKey, "key", 1), ([2, 2], DuplicateKey, "key", 2), ([2, 3, 4], TooLarge, "amount", 4),
                ([2, 3, 3], DuplicateKey, "key", 3), ([2, 3, 1], DuplicateKey, "key", 1),
                ([2, None], InvalidKey, "value", None), ([2, 3, True], InvalidKey, "value", True),
                ([2, 3, 4, None], TooLarge, "amount", 4)):
            error = raised(keeper.insert_all, "bob", keys)
            self.assertIs(error.__class__, kind)
            self.assertEqual(getattr(error, field), value)
            self.assertEqual((keeper, len(keeper)), (before, 1))
        self.assertEqual(keeper.insert_all("bob", [2, 3]), [1, 2])
        self.assertEqual(len(keeper), 2)
        keeper.undo()
        self.assertEqual((keeper, len(keeper)), (before, 1))

    def test_an_empty_list_raises_no_error(self):
        keeper = Keeper(limit=1)
        keeper.insert("ann", 1)
        for at, user in enumerate(["ann", "", None, 3, [], "Too Long A Name", True]):
            self.assertEqual(keeper.insert_all(user, []), [])
            self.assertEqual(len(keeper), at + 2)
        for user in ("", None, "Ann", "abcdefghi"):
            error = raised(keeper.insert_all, user, [None])
            self.assertEqual((error.__class__, error.value), (InvalidUser, user))

    def test_what_changes_nothing_counts(self):
        keeper = Keeper.of("ann", [2, 1])
        before = keeper.clone()
        self.assertEqual(keeper.withdraw_user("bob"), [])
        keeper.move(1, 1)
        keeper.move(0, 0)
        keeper.set_limit(40)
        self.assertEqual(keeper.insert_all("bob", []), [])
        self.assertEqual(len(keeper), 7)
        self.assertEqual(keeper, before)
        for length in (6, 5, 4, 3, 2, 1, 0):
            keeper.undo()
            self.assertEqual(len(keeper), length)
        self.assertEqual(keeper, Keeper())

    def test_undo_restores_the_limit(self):
        keeper = Keeper(7)
        keeper.set_limit(3)
        keeper.insert("ann", 1)
        keeper.set_limit(1)
        self.assertEqual(raised(keeper.insert, "ann", 2).amount, 2)
        keeper.undo()
        self.assertEqual(keeper.limit, 3)
        keeper.undo()
        keeper.undo()
        self.assertEqual((keeper.limit, len(keeper)), (7, 0))
        self.assertIs(raised(keeper.undo).__class__, NothingToUndo)
        self.assertEqual((keeper.limit, len(keeper)), (7, 0))

    def test_return_nothing(self):
        keeper = Keeper.of("ann", [1, 2])
        self.assertIsNone(keeper.move(0, 1))
        self.assertIsNone(keeper.set_limit(5))
        self.assertIsNone(keeper.undo())

    def test_lists_are_not_kept(self):
        keeper = Keeper()
        keys = [3, 1, 2]
        numbers = keeper.insert_all("ann", keys)
        keys.clear()
        numbers.append(99)
        self.assertEqual((keeper.order, keeper.numbers()), ([3, 1, 2], [0, 1, 2]))
        keeper.withdraw_user("ann").append(4)
        keeper.undo()
        self.assertEqual(keeper.order, [3, 1, 2])


class Errors(unittest.TestCase):
    def refused(self, kind, field, value, call, *arguments):
        error = raised(call, *arguments)
        with self.subTest(call=call.__name__, kinds=[one.__class__ for one in arguments]):
            self.assertIs(error.__class__, kind)
            self.assertIs(getattr(error, field), value)

    def test_users(self):
        keeper = Keeper.of("ann", [1, 2])
        wrong = ["", "A", "Ann", "ann ", " ann", "an-n", "ann1", "abcdefghi", "\u00e4", "\u0430nn", "a\n", "\u00df"]
        wrong += [None, [], ["a"], (), 0] + [one for one in other_objects() if not isinstance(one, str)]
        for user in wrong:
            self.refused(InvalidUser, "value", user, keeper.insert, user, None)
            self.refused(InvalidUser, "value", user, keeper.insert, user, 1)
            self.refused(InvalidUser, "value", user, keeper.insert_all, user, [5])
            self.refused(InvalidUser, "value", user, keeper.withdraw_user, user)
            self.refused(InvalidUser, "value", user, Keeper.of, user, [1, 1])
        for user in ("a", "z", "abcdefgh", "zzzzzzzz"):
            self.assertIsNone(raised(keeper.withdraw_user, user))
        self.assertEqual(keeper.order, [1, 2])

    def test_keys(self):
        keeper = Keeper(1)
        keeper.insert("ann", 1)
        for key in [None, [], [1], ()] + other_objects():
            self.refused(InvalidKey, "value", key, keeper.insert, "ann", key)
            self.refused(InvalidKey, "value", key, keeper.insert_all, "ann", [key])
        self.refused(DuplicateKey, "key", 1, keeper.insert, "ann", 1)
        self.refused(TooLarge, "amount", 2, keeper.insert, "ann", 2)
        self.assertEqual(len(keeper), 1)

    def test_keys_at_the_limits(self):
        keeper = Keeper()
        self.assertEqual([keeper.insert("ann", key) for key in (LIMIT, -LIMIT, 0)], [0, 1, 2])

    def test_numbers(self):
        keeper = Keeper.of("ann", [5, 6, 7])
        keeper.withdraw(1)
        for number in [1, 3, -1, 5, LIMIT, None, [], [0], ()] + other_objects():
            for call in (keeper.withdraw, keeper.user_of, keeper.consequences):
                self.refused(UnknownInsertion, "number", number, call, number)
            self.refused(UnknownInsertion, "number", number, keeper.move, number, None)
            self.refused(UnknownInsertion, "number", number, keeper.move, number, 0)
            self.refused(UnknownInsertion, "number", number, keeper.trial, [0, number, None])
        self.assertEqual(keeper.numbers(), [0, 2])

    def test_positions(self):
        keeper = Keeper.of("ann", [5, 6, 7])
        for position in [3, -1, 40, LIMIT, None, [], [0], ()] + other_objects():
            self.refused(InvalidPosition, "value", position, keeper.move, 1, position)
        self.assertEqual((keeper.numbers(), len(keeper)), ([0, 1, 2], 3))

    def test_limits(self):
        keeper = Keeper.of("ann", [5, 6, 7])
        for limit in [0, -1, 41, 100, None, [], [1], ()] + other_objects():
            self.refused(InvalidSize, "value", limit, Keeper, limit)
            self.refused(InvalidSize, "value", limit, keeper.set_limit, limit)
        for limit in (1, 2):
            self.refused(TooLarge, "amount", 3, keeper.set_limit, limit)
        self.assertEqual((keeper.limit, len(keeper)), (40, 3))
        for limit in range(1, 41):
            self.assertEqual(Keeper(limit).limit, limit)

    def test_forty_keys(self):
        keeper = Keeper()
        for key in range(40):
            self.assertEqual(keeper.insert("ann", key), key)
        self.refused(TooLarge, "amount", 41, keeper.insert, "ann", 40)
        self.refused(TooLarge, "amount", 41, keeper.insert_all, "ann", [40, 41])
        self.refused(DuplicateKey, "key", 7, keeper.insert, "ann", 7)
        keeper.withdraw(7)
        self.assertEqual(keeper.insert("ann", 7), 40)
        self.assertEqual(keeper.order[-2:], [39, 7])
