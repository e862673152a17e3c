"""A tree that is kept while insertions are added, moved, withdrawn and undone."""

from insertionorders.ancestry import depths_in, keys_above, parent_in
from insertionorders.errors import DuplicateKey, InvalidKey, InvalidPosition, InvalidSize, InvalidUser
from insertionorders.errors import NothingToUndo, UnknownInsertion
from insertionorders.orders import MAX_KEYS, check_amount, check_known, check_order, is_integer, is_key, is_within
from insertionorders.texts import is_made_of
from insertionorders.trees import tree_after

LETTERS = "abcdefghijklmnopqrstuvwxyz"
MAX_LETTERS = 8


class Keeper:
    """Keeps insertions, as tuples (number, user, key), in their order.

    Commands do not change the list of insertions but replace it: so what undo restores can share it.
    """

    MAX_LIMIT = 40

    def __init__(self, limit=MAX_KEYS):
        check_limit(limit)
        self.most = limit
        self.kept = []
        self.following = 0
        self.history = []

    def __eq__(self, other):
        return isinstance(other, Keeper) and self.most == other.most and self.kept == other.kept

    def __len__(self):
        return len(self.history)

    @classmethod
    def of(cls, user, order):
        """Return a keeper with the keys of an order inserted by one user."""
        check_user(user)
        check_order(order)
        made = cls()
        for key in order:
            made.insert(user, key)
        return made

    @property
    def order(self):
        """The list of the kept keys in their order."""
        return keys_of(self.kept)

    @property
    def tree(self):
        """The tree of the kept keys."""
        return tree_after(keys_of(self.kept))

    @property
    def total(self):
        """The sum of the depths of the kept keys."""
        return sum(depths_in(keys_of(self.kept)))

    @property
    def height(self):
        """The number of keys on the longest path of the tree."""
        return max([0] + [depth + 1 for depth in depths_in(keys_of(self.kept))])

    @property
    def limit(self):
        """The greatest number of kept keys."""
        return self.most

    def insert(self, user, key):
        """Insert a key after all kept ones and return the number of the insertion."""
        check_insertion(self.kept, self.most, user, key)
        number = self.following
        self.change(self.most, self.kept + [(number, user, key)], number + 1)
        return number

    def insert_all(self, user, keys):
        """Insert all keys of a list, or none, as one command and return the list of the numbers."""
        kept = list(self.kept)
        numbers = []
        for number, key in enumerate(keys, start=self.following):
            check_insertion(kept, self.most, user, key)
            kept.append((number, user, key))
            numbers.append(number)
        self.change(self.most, kept, self.following + len(numbers))
        return numbers

    def withdraw(self, number):
        """Remove a kept insertion and return its key."""
        at = place_of(self.kept, number)
        key = self.order[at]
        self.change(self.most, without(self.kept, at), self.following)
        return key

    def withdraw_user(self, user):
        """Withdraw all kept insertions of a user and return the list of their keys."""
        check_user(user)
        withdrawn = [insertion for insertion in self.kept if insertion[1] == user]
        self.change(self.most, [insertion for insertion in self.kept if insertion[1] != user], self.following)
        return keys_of(withdrawn)

    def move(self, number, position):
        """Move a kept insertion to a position among the kept ones."""
        at = place_of(self.kept, number)
        if not is_within(position, 0, len(self.kept) - 1):
            raise InvalidPosition(position)
        others = without(self.kept, at)
        self.change(self.most, others[:position] + [self.kept[at]] + others[position:], self.following)

    def set_limit(self, limit):
        """Set the greatest number of kept keys."""
        check_limit(limit)
        check_amount(len(self.kept), limit)
        self.change(limit, self.kept, self.following)

    def undo(self):
        """Restore everything as it was before the last command that is not undone."""
        if not self.history:
            raise NothingToUndo()
        self.most, self.kept, self.following = self.history.pop()

    def change(self, limit, kept, following):
        """Perform a command: remember what is, for undo, and replace it."""
        self.history.append((self.most, self.kept, self.following))
        self.most = limit
        self.kept = kept
        self.following = following

    def numbers(self):
        """Return the list of the numbers of the kept insertions in their order."""
        return numbers_of(self.kept)

    def user_of(self, number):
        """Return the user of a kept insertion."""
        return self.kept[place_of(self.kept, number)][1]

    def path(self, key):
        """Return the list of the keys from the root to a kept key."""
        order = keys_of(self.kept)
        check_known(order, key)
        return keys_above(order, key) + [key]

    def consequences(self, number):
        """Return the ascending list of the other keys whose parent changes if an insertion is withdrawn."""
        order = keys_of(self.kept)
        others = without(order, place_of(self.kept, number))
        return [key for key in sorted(others) if parent_in(order, key) != parent_in(others, key)]

    def trial(self, numbers):
        """Return the tree after some insertions are withdrawn, and leave everything as it is."""
        kept = self.kept
        for number in numbers:
            kept = without(kept, place_of(kept, number))
        return tree_after(keys_of(kept))

    def clone(self):
        """Return an equal, independent keeper with the same commands to undo."""
        copied = Keeper(self.most)
        copied.kept = self.kept
        copied.following = self.following
        copied.history = list(self.history)
        return copied


def check_limit(limit):
    """Raise InvalidSize for any object that is not a limit."""
    if not is_within(limit, 1, Keeper.MAX_LIMIT):
        raise InvalidSize(limit)


def check_user(user):
    """Raise InvalidUser for any object that is not a user."""
    if not isinstance(user, str) or len(user) > MAX_LETTERS or not is_made_of(user, LETTERS):
        raise InvalidUser(user)


def check_insertion(kept, limit, user, key):
    """Raise an error unless a user can insert a key after the kept ones."""
    check_user(user)
    if not is_key(key):
        raise InvalidKey(key)
    if key in keys_of(kept):
        raise DuplicateKey(key)
    check_amount(len(kept) + 1, limit)


def place_of(kept, number):
    """Return the place of the kept insertion with a number; raise UnknownInsertion for any other object."""
    numbers = numbers_of(kept)
    if not is_integer(number) or number not in numbers:
        raise UnknownInsertion(number)
    return numbers.index(number)


def numbers_of(kept):
    """Return the list of the numbers of insertions."""
    return [number for number, user, key in kept]


def keys_of(kept):
    """Return the list of the keys of insertions."""
    return [key for number, user, key in kept]


def without(values, at):
    """Return the list of all values but the one at a place."""
    return values[:at] + values[at + 1:]
