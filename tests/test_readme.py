"""README.md says how to use the program and how to run its tests."""

import doctest
import pathlib
import unittest

from everybill import accounts, backwards, billing, certificates, checker, choosing, console, histories, leads, states
from everybill import thrift
from tests import test_language

INTERFACE = " ".join(test_language.INTERFACE.values()).split()
MODULES = (
    billing, histories, states, leads, thrift, backwards, choosing, accounts, checker, certificates, console,
)
README = pathlib.Path(__file__).resolve().parent.parent / "README.md"


class ReadmeTest(unittest.TestCase):
    def test_its_examples_hold(self):
        result = doctest.testfile(str(README), module_relative=False, encoding="utf-8")
        self.assertGreater(result.attempted, 0)
        self.assertEqual(result.failed, 0)

    def test_it_names_how_to_run_the_tests(self):
        text = README.read_text(encoding="utf-8")
        for command in ("python3 -m unittest discover -s tests -t .", "bash .ci/run"):
            self.assertIn(command, text)

    def test_it_names_the_modules_to_use(self):
        text = README.read_text(encoding="utf-8")
        for module in [file.removesuffix(".py") for file in test_language.INTERFACE]:
            self.assertIn(f"- `everybill.{module}`: ", text)

    def test_it_shows_each_function(self):
        text = README.read_text(encoding="utf-8")
        for module in MODULES:
            for name, held in vars(module).items():
                if getattr(held, "__module__", "") == module.__name__ and name in INTERFACE:
                    self.assertIn(f"{name}(", text)

    def test_it_shows_each_method(self):
        text = README.read_text(encoding="utf-8")
        for names in test_language.METHODS.values():
            for name in names.split():
                if not name.startswith("__"):
                    self.assertIn(f".{name}(", text)


if __name__ == "__main__":
    unittest.main()
