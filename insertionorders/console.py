"""A console that executes lines of text on a keeper."""

from insertionorders.counting import count_orders, next_order
from insertionorders.errors import InvalidLine
from insertionorders.keeper import LETTERS, Keeper
from insertionorders.texts import DIGITS, format_order, format_tree, is_made_of, key_in

MAX_NUMBER_DIGITS = 4
DONE = "ok"
NONE_LEFT = "none"


def run_insert(keeper, given):
    """Insert a key; the result is the number of the insertion."""
    user, key = given
    return str(keeper.insert(user, key))


def run_withdraw(keeper, given):
    """Withdraw an insertion; the result is its key."""
    return str(keeper.withdraw(given[0]))


def run_leave(keeper, given):
    """Withdraw all insertions of a user; the result is their keys."""
    return format_order(keeper.withdraw_user(given[0]))


def run_move(keeper, given):
    """Move an insertion to a position."""
    number, position = given
    keeper.move(number, position)
    return DONE


def run_limit(keeper, given):
    """Set the limit."""
    keeper.set_limit(given[0])
    return DONE


def run_undo(keeper, given):
    """Undo the last command."""
    keeper.undo()
    return DONE


def run_order(keeper, given):
    """Tell the kept keys."""
    return format_order(keeper.order)


def run_tree(keeper, given):
    """Tell the tree."""
    return format_tree(keeper.tree)


def run_total(keeper, given):
    """Tell the total."""
    return str(keeper.total)


def run_height(keeper, given):
    """Tell the height."""
    return str(keeper.height)


def run_length(keeper, given):
    """Tell the number of commands that are not undone."""
    return str(len(keeper))


def run_path(keeper, given):
    """Tell the path to a key."""
    return format_order(keeper.path(given[0]))


def run_count(keeper, given):
    """Tell the number of orders of the tree."""
    return str(count_orders(keeper.tree))


def run_next(keeper, given):
    """Tell the next order of the tree."""
    following = next_order(keeper.order)
    return NONE_LEFT if following is None else format_order(following)


# The forms of the words behind each first word, and the function that executes such a line.
FORMS = {
    "insert": ("user", "key"),
    "withdraw": ("number",),
    "leave": ("user",),
    "move": ("number", "number"),
    "limit": ("number",),
    "undo": (),
    "order": (),
    "tree": (),
    "total": (),
    "height": (),
    "length": (),
    "path": ("key",),
    "count": (),
    "next": (),
}
ACTIONS = {
    "insert": run_insert,
    "withdraw": run_withdraw,
    "leave": run_leave,
    "move": run_move,
    "limit": run_limit,
    "undo": run_undo,
    "order": run_order,
    "tree": run_tree,
    "total": run_total,
    "height": run_height,
    "length": run_length,
    "path": run_path,
    "count": run_count,
    "next": run_next,
}


class Console:
    """Executes lines on a keeper, which is new at first."""

    def __init__(self):
        self.keeper = Keeper()

    def run(self, line):
        """Execute a line and return its result as a string."""
        word, given = parsed(line)
        action = ACTIONS[word]
        return action(self.keeper, given)


def parsed(line):
    """Return the first word of a line and the list of its arguments; raise InvalidLine for any other object."""
    if not isinstance(line, str):
        raise InvalidLine()
    words = line.split(" ")
    forms = FORMS.get(words[0])
    if forms is None or len(words) != len(forms) + 1:
        raise InvalidLine()
    given = [argument_in(form, word) for form, word in zip(forms, words[1:])]
    if None in given:
        raise InvalidLine()
    return (words[0], given)


def argument_in(form, word):
    """Return the argument that a word is written for, None if it is not of the form."""
    if form == "key":
        return key_in(word)
    if form == "user":
        return word if is_made_of(word, LETTERS) else None
    return int(word) if is_made_of(word, DIGITS) and len(word) <= MAX_NUMBER_DIGITS else None
