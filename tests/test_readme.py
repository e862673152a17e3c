"""The examples in README.md."""

import doctest
import pathlib
import unittest

README = pathlib.Path(__file__).resolve().parent.parent / "README.md"


class Readme(unittest.TestCase):
    def test_examples(self):
        lines = [line for line in README.read_text(encoding="utf-8").splitlines() if not line.startswith("```")]
        examples = doctest.DocTestParser().get_doctest("\n".join(lines), {}, "README.md", None, 0)
        # Text may follow an example without an empty line between them once the fences are left out.
        self.assertGreater(len(examples.examples), 20)
        for example in examples.examples:
            self.assertNotIn("```", example.want)
        self.assertEqual(doctest.DocTestRunner(verbose=False).run(examples).failed, 0)
