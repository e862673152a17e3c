"""Orders and trees as text."""

from insertionorders.errors import ParseError
from insertionorders.orders import MAX_KEYS, check_order, is_key
from insertionorders.trees import check_tree, is_tree

DIGITS = "0123456789"
MAX_DIGITS = 19
NO_KEYS = "-"
NO_PARENT = "*"


def format_order(order):
    """Return the keys of the order separated by single spaces, - for the empty one."""
    check_order(order)
    return text_of([str(key) for key in order])


def format_tree(tree):
    """Return key<parent for each key of the tree separated by single spaces, - for the empty one."""
    check_tree(tree)
    return text_of([f"{key}<{NO_PARENT if parent is None else parent}" for key, parent in tree])


def parse_order(text):
    """Return the order whose formatted text this is."""
    keys = values_in(text, key_in)
    if len(keys) > MAX_KEYS or len(set(keys)) < len(keys):
        raise ParseError(len(keys))
    return keys


def parse_tree(text):
    """Return the tree whose formatted text this is."""
    pairs = tuple(values_in(text, pair_in))
    if not is_tree(pairs):
        raise ParseError(len(pairs))
    return pairs


def text_of(words):
    """Return the words separated by single spaces, - for none."""
    return " ".join(words) if words else NO_KEYS


def values_in(text, read):
    """Return the list of what the words of a text mean, where read(word) is None for a word that is not of the form."""
    if not isinstance(text, str):
        raise ParseError(None)
    if text == NO_KEYS:
        return []
    values = [read(word) for word in text.split(" ")]
    if None in values:
        raise ParseError(values.index(None))
    return values


def key_in(word):
    """Return the key that a word is written for, None if it is not of the form."""
    digits = word[1:] if word.startswith("-") else word
    # No longer number is read: Python itself refuses to read very long ones.
    if not is_made_of(digits, DIGITS) or len(digits) > MAX_DIGITS:
        return None
    if digits.startswith("0") and word != "0":
        return None
    key = int(word)
    return key if is_key(key) else None


def pair_in(word):
    """Return the key and the parent that a word is written for, None if it is not of the form."""
    left, sign, right = word.partition("<")
    key = key_in(left)
    parent = key_in(right)
    if key is None or (parent is None and right != NO_PARENT):
        return None
    return (key, parent)


def is_made_of(word, characters):
    """Return whether a word is not empty and has only some of these characters."""
    return bool(word) and all([character in characters for character in word])
