"""Point [28]: a console, against a keeper."""

import unittest

from insertionorders.console import Console
from insertionorders.counting import count_orders, next_order
from insertionorders.errors import DuplicateKey, InvalidLine, InvalidPosition, InvalidSize, InvalidUser, NothingToUndo
from insertionorders.errors import TooLarge, UnknownInsertion, UnknownKey
from insertionorders.keeper import Keeper
from tests.support import LIMIT, other_objects, raised
from tests.test_keeper import Choices

QUERIES = ("order", "tree", "total", "height", "length", "count", "next")


def order_text(keys):
    return " ".join(str(key) for key in keys) or "-"


def tree_text(tree):
    return " ".join(f"{key}<{'*' if parent is None else parent}" for key, parent in tree) or "-"


def told(keeper):
    """Return what the queries of a console with this keeper must return."""
    following = next_order(keeper.order)
    return (order_text(keeper.order), tree_text(keeper.tree), str(keeper.total), str(keeper.height), str(len(keeper)),
            str(count_orders(keeper.tree)), "none" if following is None else order_text(following))


def executed(keeper, line):
    """Execute a line that is one on a keeper by plain calls; return the result."""
    word, *words = line.split(" ")
    if word == "insert":
        return str(keeper.insert(words[0], int(words[1])))
    if word == "withdraw":
        return str(keeper.withdraw(int(words[0])))
    if word == "leave":
        return order_text(keeper.withdraw_user(words[0]))
    if word == "path":
        return order_text(keeper.path(int(words[0])))
    if word == "move":
        keeper.move(int(words[0]), int(words[1]))
    elif word == "limit":
        keeper.set_limit(int(words[0]))
    elif word == "undo":
        keeper.undo()
    return "ok"


def a_line(choices, keeper):
    """Return a line with a command or the query of a path; some of these lines fail."""
    number = choices.one_of(keeper.numbers() + [choices.below(60), 9999])
    padded = str(number).rjust(choices.one_of((1, 4)), "0")
    position = choices.below(len(keeper.order) + 2)
    key = choices.one_of(keeper.order + [choices.below(40) - 20, LIMIT])
    user = choices.one_of(("ann", "bob", "z", "abcdefgh", "abcdefghi", "abcdefghijklmnopqrstuvwxyz"))
    return choices.one_of((
        f"insert {user} {choices.below(50) - 25}", f"insert {user} {key}", f"insert ann {choices.below(50) - 25}",
        f"insert bob {-choices.below(50)}", f"withdraw {padded}", f"leave {user}", f"move {padded} {position}",
        f"limit {choices.one_of((0, 5, 20, 40, 41, '007', '0040'))}", "undo", f"path {key}",
    ))


class Lines(unittest.TestCase):
    def same(self, console, keeper):
        self.assertEqual(tuple(console.run(query) for query in QUERIES), told(keeper))

    def test_long_sequences(self):
        failed = set()
        for seed in range(30):
            console, keeper, choices = Console(), Keeper(), Choices(seed)
            for repeated in range(80):
                line = a_line(choices, keeper)
                expected = raised(executed, keeper.clone(), line)
                error = raised(console.run, line) if expected else None
                with self.subTest(line=line):
                    self.assertIs(error.__class__, expected.__class__)
                    if expected:
                        self.assertEqual(vars(error), vars(expected))
                        failed.add((line.split(" ")[0], error.__class__))
                    else:
                        result = console.run(line)
                        self.assertIs(result.__class__, str)
                        self.assertEqual(result, executed(keeper, line))
                    self.same(console, keeper)
        for pair in (("insert", InvalidUser), ("insert", DuplicateKey), ("insert", TooLarge), ("leave", InvalidUser),
                     ("withdraw", UnknownInsertion), ("move", UnknownInsertion), ("move", InvalidPosition),
                     ("limit", InvalidSize), ("limit", TooLarge), ("undo", NothingToUndo), ("path", UnknownKey)):
            self.assertIn(pair, failed)

    def test_new_console(self):
        self.same(Console(), Keeper())
        self.assertEqual(told(Keeper()), ("-", "-", "0", "0", "0", "1", "none"))

    def test_by_hand(self):
        console = Console()
        for line, result in (
                ("insert ann 2", "0"), ("insert bob 1", "1"), ("insert ann 3", "2"), ("order", "2 1 3"),
                ("tree", "1<2 2<* 3<2"), ("total", "2"), ("height", "2"), ("length", "3"), ("path 3", "2 3"),
                ("path 2", "2"), ("count", "2"), ("next", "2 3 1"), ("move 2 0", "ok"), ("order", "3 2 1"),
                ("next", "none"), ("leave ann", "3 2"), ("leave ann", "-"), ("undo", "ok"), ("undo", "ok"),
                ("withdraw 0001", "1"), ("limit 2", "ok"), ("length", "6"), ("insert zoe -5", None),
                ("limit 0003", "ok"),
                (f"insert zoe -{LIMIT}", "3"), ("tree", f"-{LIMIT}<2 2<3 3<*"), (f"path -{LIMIT}", f"3 2 -{LIMIT}")):
            if result is None:
                self.assertEqual(raised(console.run, line).amount, 3)
            else:
                self.assertEqual(console.run(line), result)

    def test_limit_of_forty(self):
        console = Console()
        for key in range(40):
            self.assertEqual(console.run(f"insert ann {key}"), str(key))
        error = raised(console.run, "insert ann 40")
        self.assertEqual((error.__class__, error.amount), (TooLarge, 41))
        self.assertEqual(console.run("height"), "40")
        self.assertEqual(console.run("total"), "780")
        self.assertEqual(console.run("count"), "1")

    def test_numbers_with_leading_zeros(self):
        console = Console()
        console.run("insert ann 7")
        console.run("insert ann 8")
        self.assertEqual(console.run("move 0001 0000"), "ok")
        self.assertEqual(console.run("order"), "8 7")
        self.assertEqual(console.run("withdraw 01"), "8")
        self.assertEqual(console.run("limit 05"), "ok")
        error = raised(console.run, "withdraw 0009")
        self.assertEqual((error.__class__, error.number), (UnknownInsertion, 9))
        error = raised(console.run, "limit 0000")
        self.assertEqual((error.__class__, error.value), (InvalidSize, 0))
        error = raised(console.run, "move 0 9999")
        self.assertEqual((error.__class__, error.value), (InvalidPosition, 9999))

    def test_long_user(self):
        console = Console()
        for user in ("abcdefghi", "a" * 1000):
            for line in (f"insert {user} 1", f"leave {user}"):
                error = raised(console.run, line)
                self.assertEqual((error.__class__, error.value), (InvalidUser, user))
        self.assertEqual(console.run("length"), "0")

    def test_two_consoles(self):
        one, other = Console(), Console()
        one.run("insert ann 1")
        self.assertEqual((one.run("order"), other.run("order")), ("1", "-"))

    def test_in_the_class_itself(self):
        self.assertIn("run", vars(Console))


def wrong_lines():
    """Return strings that are no lines."""
    lines = [""] + [" " * many for many in (1, 2, 3)]
    right = ("insert ann 2", "withdraw 0", "leave ann", "move 0 1", "limit 5", "undo", "path 3", *QUERIES)
    for line in right:
        lines += [" " + line, line + " ", line + " x", line + " 1 1", line.upper(), line.title(), line + "\n"]
        lines += ["\t" + line, line[1:], line[:-1] + "\u00e9", line + "-"]
        lines += [line.replace(" ", "  "), line.replace(" ", "\t")]
        if " " in line:
            lines += [line.rsplit(" ", 1)[0], line.split(" ")[0]]
    lines += ["insert " + user + " 1" for user in ("Ann", "ann1", "an-n", "\u00e4", "\u00df", "1", "*", "-", "")]
    lines += ["leave " + user for user in ("Ann", "ann1", "an-n", "\u00e4", "1", "-", "")]
    keys = ["", "-", "+1", "-0", "00", "01", "-01", "1.0", "a", "\u0661", str(LIMIT + 1), str(-LIMIT - 1), "9" * 5000]
    lines += ["insert ann " + key for key in keys] + ["path " + key for key in keys]
    numbers = ["", "-1", "+1", "-0", "00000", "00001", "12345", "1.0", "a", "\u0661", "1\u0661", "\u00b2", "1_0", "one"]
    for number in numbers:
        lines += ["withdraw " + number, "limit " + number, "move " + number + " 0", "move 0 " + number]
    lines += ["insert", "help", "insert_all ann 1", "numbers", "clone", "set_limit 3"]
    return [line for line in lines if line not in right]


class NoLines(unittest.TestCase):
    def prepared(self):
        console = Console()
        for line in ("insert ann 1", "insert bob 3", "insert ann 2", "withdraw 1"):
            console.run(line)
        return console

    def test_wrong_lines(self):
        console = self.prepared()
        before = [console.run(query) for query in QUERIES]
        for line in wrong_lines():
            with self.subTest(line=line):
                self.assertIs(raised(console.run, line).__class__, InvalidLine)
        self.assertEqual([console.run(query) for query in QUERIES], before)

    def test_other_objects(self):
        console = self.prepared()
        before = [console.run(query) for query in QUERIES]
        for line in [None, [], ["order"], ("order",), b"order", 1] + other_objects():
            with self.subTest(kind=line.__class__):
                self.assertIs(raised(console.run, line).__class__, InvalidLine)
        self.assertEqual([console.run(query) for query in QUERIES], before)

    def test_errors_change_nothing(self):
        console = self.prepared()
        before = [console.run(query) for query in QUERIES]
        for line in ("insert ann 1", "insert toolongname 9", "withdraw 1", "withdraw 77", "leave toolongname",
                     "move 1 0", "move 0 2", "limit 0", "limit 1", "limit 41", "path 3", "path 99"):
            self.assertIsNotNone(raised(console.run, line))
            self.assertEqual([console.run(query) for query in QUERIES], before)
