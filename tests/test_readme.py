"""README.md says how to use the program and how to run its tests."""

import doctest
import inspect
import pathlib
import unittest

from everybill import backwards, billing, choosing, histories, leads, states, thrift
from tests import test_language

INTERFACE = " ".join(test_language.INTERFACE.values()).split()
README = pathlib.Path(__file__).resolve().parent.parent / "README.md"


class ReadmeTest(unittest.TestCase):
    def test_its_examples_hold(self):
        result = doctest.testfile(str(README), module_relative=False, encoding="utf-8")
        self.assertGreater(result.attempted, 0)
        self.assertEqual(result.failed, 0)

    def test_it_names_how_to_run_the_tests(self):
        text = README.read_text(encoding="utf-8")
        for command in ("python3 -m unittest discover -s tests -t .", "bash .ci/run"):
            self.assertIn(command, text)

    def test_it_names_the_modules_to_use(self):
        text = README.read_text(encoding="utf-8")
        for module in "limits errors plans billing histories states leads thrift backwards choosing".split():
            self.assertIn(f"- `everybill.{module}`: ", text)

    def test_it_shows_each_function(self):
        text = README.read_text(encoding="utf-8")
        for module in (billing, histories, states, leads, thrift, backwards, choosing):
            for name, held in vars(module).items():
                if inspect.isfunction(held) and held.__module__ == module.__name__ and name in INTERFACE:
                    self.assertIn(f"{name}(", text)


if __name__ == "__main__":
    unittest.main()
