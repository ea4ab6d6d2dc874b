"""README.md says how to use the program and how to run its tests."""

import doctest
import pathlib
import unittest

README = pathlib.Path(__file__).resolve().parent.parent / "README.md"


class ReadmeTest(unittest.TestCase):
    def test_its_examples_hold(self):
        result = doctest.testfile(str(README), module_relative=False, encoding="utf-8")
        self.assertGreater(result.attempted, 0)
        self.assertEqual(result.failed, 0)

    def test_it_names_how_to_run_the_tests(self):
        text = README.read_text(encoding="utf-8")
        for command in ("python3 -m unittest discover -s tests -t .", "bash .ci/run"):
            self.assertIn(command, text)

    def test_it_names_the_modules_to_use(self):
        text = README.read_text(encoding="utf-8")
        for module in ("everybill.limits", "everybill.errors", "everybill.plans"):
            self.assertIn(module, text)


if __name__ == "__main__":
    unittest.main()
