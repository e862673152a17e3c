"""All errors of the package; the fields of an error have the names of its arguments."""


class InsertionError(ValueError):
    """The base of the errors for arguments that are not as required."""


class InvalidOrder(InsertionError):
    """An object is not an order; position is None if no single element is to blame."""

    def __init__(self, position):
        self.position = position


class InvalidTree(InsertionError):
    """An object is not the tree of an order."""


class InvalidKey(InsertionError):
    """An object is not a key."""

    def __init__(self, value):
        self.value = value


class InvalidKeys(InsertionError):
    """An object is not an ascending list of keys; position is None if no single element is to blame."""

    def __init__(self, position):
        self.position = position


class InvalidPosition(InsertionError):
    """An object is not a position, or not a place, that the call allows."""

    def __init__(self, value):
        self.value = value


class InvalidNumber(InsertionError):
    """An object is not a number that the call allows."""

    def __init__(self, value):
        self.value = value


class InvalidSize(InsertionError):
    """An object is not a size that the call allows."""

    def __init__(self, value):
        self.value = value


class InvalidFacts(InsertionError):
    """An object is not a list of facts; position is None if no single element is to blame."""

    def __init__(self, position):
        self.position = position


class InvalidObservations(InsertionError):
    """An object is not a list of observations; position is None if no single element is to blame."""

    def __init__(self, position):
        self.position = position


class InvalidSearch(InsertionError):
    """An object is not the path of a search; position is None if no single element is to blame."""

    def __init__(self, position):
        self.position = position


class InvalidUser(InsertionError):
    """An object is not a user."""

    def __init__(self, value):
        self.value = value


class InvalidLine(InsertionError):
    """An object is not a line that a console executes."""


class DifferentKeys(InsertionError):
    """Two arguments that must have the same keys differ in this one."""

    def __init__(self, key):
        self.key = key


class DifferentTrees(InsertionError):
    """Two orders that must build the same tree build different paths to this key."""

    def __init__(self, key):
        self.key = key


class DuplicateKey(InsertionError):
    """A key that must be new is there already."""

    def __init__(self, key):
        self.key = key


class NoParent(InsertionError):
    """A key that must have a parent is the root."""

    def __init__(self, key):
        self.key = key


class ParseError(InsertionError):
    """An object is not the text of what is to be parsed; word is None if it is not a string."""

    def __init__(self, word):
        self.word = word


class UnknownKey(KeyError):
    """An object is not one of the keys."""

    def __init__(self, key):
        self.key = key


class UnknownInsertion(LookupError):
    """An object is not the number of a kept insertion."""

    def __init__(self, number):
        self.number = number


class NothingToUndo(LookupError):
    """There is no command that could be undone."""


class TooLarge(OverflowError):
    """There are, or would be, more keys than the call allows."""

    def __init__(self, amount):
        self.amount = amount


class Contradiction(ArithmeticError):
    """The facts contradict each other: this chain of them begins and ends with the same key."""

    def __init__(self, chain):
        self.chain = chain


class Unsatisfiable(ArithmeticError):
    """No tree fits the observations."""
