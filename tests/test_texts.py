"""Point [27]: orders and trees as text."""

import unittest

from insertionorders.errors import InvalidOrder, InvalidTree, ParseError
from insertionorders.texts import format_order, format_tree, parse_order, parse_tree
from insertionorders.trees import build, is_tree
from tests.support import LIMIT, long_orders, not_orders, not_trees, other_objects, raised, sample_orders, shuffled

# Words that are not written for a key.
NOT_KEYS = (
    "", "-", "--1", "+1", "+0", "-0", "00", "01", "-01", "007", "1.0", "1e3", "0x1", "1_000", "a", "1a", "a1", "1-",
    "*", "<", "1<", "1,2", "(1)", "'1'", "None", "True", "\t", "1\t", "\n", "1\n", "\n1", "\u00b2", "\u0661",
    "1\u0661", "\uff11", "\u096d", "\u2212" + "1", "\u00a01", "\u2460", str(LIMIT + 1), str(-LIMIT - 1),
    "9" * 19, "1" * 20, "-" + "1" * 20, "9" * 5000, "0" * 5000, "-" + "9" * 5000,
)

# Words that are not written for a key and its parent.
NOT_PAIRS = (
    "", "-", "1", "<", "*", "1<", "<1", "1<<2", "1<2<3", "1<2<", "<1<2", "*<1", "*<*", "1*", "1<**", "1<*2", "1<2*",
    "1<-", "1>2", "1<+2", "1<02", "01<2", "-0<1", "1<-0", "1<a", "a<1", "1<None", "1<\u0661", "\u0661<1", "1<2\n",
    "\t1<2", "1,2", "1<" + str(LIMIT + 1), str(LIMIT + 1) + "<1", "1<" + "9" * 5000, "9" * 5000 + "<*",
)


class Parsing(unittest.TestCase):
    def refused(self, function, text, word):
        error = raised(function, text)
        with self.subTest(function=function.__name__, text=text if isinstance(text, str) else text.__class__):
            self.assertIs(error.__class__, ParseError)
            self.assertEqual(error.word, word)


class Orders(Parsing):
    def test_there_and_back(self):
        for order in sample_orders():
            text = format_order(order)
            self.assertIs(text.__class__, str)
            self.assertEqual(text, " ".join(str(key) for key in order) or "-")
            found = parse_order(text)
            self.assertIs(found.__class__, list)
            self.assertEqual(found, order)
            self.assertEqual(format_order(found), text)

    def test_by_hand(self):
        self.assertEqual(format_order([]), "-")
        self.assertEqual(parse_order("-"), [])
        self.assertEqual(format_order([0]), "0")
        self.assertEqual(parse_order("0"), [0])
        self.assertEqual(format_order([-5, 10, LIMIT, -LIMIT]), f"-5 10 {LIMIT} -{LIMIT}")
        self.assertEqual(parse_order(f"-5 10 {LIMIT} -{LIMIT}"), [-5, 10, LIMIT, -LIMIT])
        self.assertEqual(parse_order("10 100"), [10, 100])

    def test_not_a_string(self):
        for wrong in [None, 1, [], ["1"], b"1", b"-"] + other_objects():
            if not isinstance(wrong, str):
                self.refused(parse_order, wrong, None)

    def test_words_that_are_not_of_the_form(self):
        for word in NOT_KEYS:
            if word != "-":
                self.refused(parse_order, word, 0)
            self.refused(parse_order, word + " 1", 0)
            self.refused(parse_order, "1 " + word, 1)
            self.refused(parse_order, "1 2 " + word + " x", 2)
            self.refused(parse_order, "1 1 " + word, 2)

    def test_spaces(self):
        self.refused(parse_order, "", 0)
        self.refused(parse_order, " ", 0)
        self.refused(parse_order, " 1", 0)
        self.refused(parse_order, "1 ", 1)
        self.refused(parse_order, "1  2", 1)
        self.refused(parse_order, "1 2  3", 2)
        self.refused(parse_order, "- ", 0)
        self.refused(parse_order, " -", 0)
        self.refused(parse_order, "- -", 0)

    def test_no_order(self):
        self.refused(parse_order, "1 1", 2)
        self.refused(parse_order, "1 2 3 2", 4)
        self.refused(parse_order, "0 0 0", 3)
        for size in (41, 42, 100):
            self.refused(parse_order, " ".join(str(key) for key in range(size)), size)
        self.refused(parse_order, " ".join(["7"] * 41), 41)
        self.refused(parse_order, " ".join(str(key) for key in range(50)) + " x", 50)
        self.assertEqual(len(parse_order(" ".join(str(key) for key in range(40)))), 40)

    def test_format_of_what_is_no_order(self):
        for wrong, position in not_orders():
            error = raised(format_order, wrong)
            with self.subTest(kind=wrong.__class__):
                self.assertIs(error.__class__, InvalidOrder)
                self.assertEqual(error.position, position)

    def test_new_lists(self):
        parse_order("1 2").clear()
        parse_order("-").append(1)
        self.assertEqual((parse_order("1 2"), parse_order("-")), ([1, 2], []))


class Trees(Parsing):
    def test_there_and_back(self):
        for order in sample_orders():
            tree = build(order)
            text = format_tree(tree)
            words = [f"{key}<{'*' if parent is None else parent}" for key, parent in tree]
            self.assertEqual(text, " ".join(words) or "-")
            found = parse_tree(text)
            self.assertIs(found.__class__, tuple)
            self.assertEqual(found, tree)
            self.assertIs(is_tree(found), True)
            self.assertEqual(format_tree(found), text)

    def test_by_hand(self):
        self.assertEqual(format_tree(()), "-")
        self.assertEqual(parse_tree("-"), ())
        self.assertEqual(format_tree(build([0])), "0<*")
        self.assertEqual(parse_tree("-2<0 0<* 5<0"), ((-2, 0), (0, None), (5, 0)))
        self.assertEqual(format_tree(build([-LIMIT, LIMIT])), f"-{LIMIT}<* {LIMIT}<-{LIMIT}")

    def test_not_a_string(self):
        for wrong in [None, 1, [], (), ((1, None),), b"1<*", b"-"] + other_objects():
            if not isinstance(wrong, str):
                self.refused(parse_tree, wrong, None)

    def test_words_that_are_not_of_the_form(self):
        for word in NOT_PAIRS:
            if word != "-":
                self.refused(parse_tree, word, 0)
            self.refused(parse_tree, word + " 1<*", 0)
            self.refused(parse_tree, "1<* " + word, 1)
            self.refused(parse_tree, "1<2 2<* " + word + " x", 2)
            self.refused(parse_tree, "1<* 1<* " + word, 2)

    def test_each_wrong_key(self):
        for word in NOT_KEYS:
            self.refused(parse_tree, "1<* " + word + "<1", 1)
            if word != "*":
                self.refused(parse_tree, "1<* 2<" + word, 1)

    def test_spaces(self):
        for text, word in (("", 0), (" ", 0), (" 1<*", 0), ("1<* ", 1), ("1<*  2<1", 1), ("- ", 0), (" -", 0)):
            self.refused(parse_tree, text, word)
        for text, word in (("- -", 0), ("1 <*", 0), ("1< *", 0), ("1<* -", 1), ("- 1<*", 0), ("1<2 2<* - 3<2", 2)):
            self.refused(parse_tree, text, word)

    def test_no_tree(self):
        for text in ("1<1", "1<2", "2<* 1<2", "1<* 2<*", "1<2 2<1", "1<* 1<*", "1<3 2<* 3<2", "1<* 2<3", "1<2 2<3 3<1"):
            self.refused(parse_tree, text, len(text.split(" ")))
        for size in (41, 50):
            words = ["0<*"] + [f"{key}<{key - 1}" for key in range(1, size)]
            self.refused(parse_tree, " ".join(words), size)
            self.refused(parse_tree, " ".join(words + ["x"]), size)

    def test_other_orders_of_the_words(self):
        for order in long_orders()[:20]:
            words = format_tree(build(order)).split(" ")
            for text in (words[::-1], shuffled(words, 1), words[:1] + words, words + words[:1], words[:-1] + words[:1]):
                self.refused(parse_tree, " ".join(text), len(text))

    def test_format_of_what_is_no_tree(self):
        for wrong in not_trees():
            with self.subTest(kind=wrong.__class__):
                self.assertIs(raised(format_tree, wrong).__class__, InvalidTree)


class Both(Parsing):
    def test_texts_of_the_other_kind(self):
        self.refused(parse_order, "1<*", 0)
        self.refused(parse_tree, "1", 0)

    def test_words_against_a_plain_reading(self):
        # Each word of up to three of these characters is of the form exactly if it is the text of its number.
        characters = "-+0123 *<a"
        words = [one + two + three for one in characters for two in ["", *characters] for three in ["", *characters]]
        written = {str(number) for number in range(-999, 1000)} | {"-"}
        for word in words:
            error = raised(parse_order, word)
            parts = word.split(" ")
            if word in written:
                self.assertIsNone(error)
            elif all(part in written and part != "-" for part in parts):
                # Two equal keys.
                self.assertEqual(error.word if error else None, len(parts) if len(set(parts)) < len(parts) else None)
            else:
                wrong = [at for at, part in enumerate(parts) if part not in written or part == "-"]
                self.assertEqual(error.word, wrong[0])
