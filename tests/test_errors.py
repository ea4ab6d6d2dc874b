"""The classes of everybill.errors and how each of them is made."""

import inspect
import unittest

from everybill import errors
from tests.samples import SAMPLES

VALUE_ERRORS = (
    "InvalidFees InvalidIncluded InvalidCarry InvalidLeast InvalidMost InvalidStreak NotAPlan InvalidState InvalidUse "
    "InvalidBound InvalidAmount InvalidPeriod InvalidUnits InvalidLine"
).split()
INDEX_ERRORS = "InvalidTiers InvalidUses InvalidRuns InvalidRow InvalidDeed".split()

FORM_ERRORS = {
    **{name: "value" for name in VALUE_ERRORS},
    **{name: "index" for name in INDEX_ERRORS},
    "InvalidText": "line",
}
BARE_ERRORS = ("NoPlans", "NothingToSend", "NothingToUndo")
STATE_ERRORS = {
    **{name: None for name in BARE_ERRORS},
    "NoUse": "amount",
    "NegativeUse": "use",
    "OverLimit": "period",
}
ATTRIBUTES = {name: attribute for name, attribute in {**FORM_ERRORS, **STATE_ERRORS}.items() if attribute is not None}


class ErrorsTest(unittest.TestCase):
    def test_the_bases_stand_below_the_errors_of_python(self):
        self.assertEqual(errors.FormError.__bases__, (ValueError,))
        self.assertEqual(errors.StateError.__bases__, (LookupError,))

    def test_each_class_stands_directly_below_its_base(self):
        for base, names in ((errors.FormError, FORM_ERRORS), (errors.StateError, STATE_ERRORS)):
            for name in names:
                with self.subTest(name):
                    self.assertEqual(getattr(errors, name).__bases__, (base,))

    def test_there_is_no_other_class(self):
        found = {name for name, held in vars(errors).items() if inspect.isclass(held)}
        self.assertEqual(found, {"FormError", "StateError", *FORM_ERRORS, *STATE_ERRORS})

    def test_no_class_is_below_another_one(self):
        names = [*FORM_ERRORS, *STATE_ERRORS]
        for name in names:
            for other in names:
                below = issubclass(getattr(errors, name), getattr(errors, other))
                self.assertEqual(below, name == other, (name, other))

    def test_the_attribute_is_kept_as_it_is_by_position_and_by_name(self):
        for name, attribute in ATTRIBUTES.items():
            made = getattr(errors, name)
            for value in SAMPLES:
                with self.subTest(name, value=repr(value)[:60]):
                    self.assertIs(getattr(made(value), attribute), value)
                    self.assertIs(getattr(made(**{attribute: value}), attribute), value)

    def test_each_error_has_only_its_attribute(self):
        for name, attribute in ATTRIBUTES.items():
            with self.subTest(name):
                self.assertEqual(vars(getattr(errors, name)(7)), {attribute: 7})

    def test_an_attribute_must_be_given_and_only_one(self):
        for name, attribute in ATTRIBUTES.items():
            made = getattr(errors, name)
            with self.subTest(name):
                self.assertRaises(TypeError, made)
                self.assertRaises(TypeError, made, 1, 2)
                self.assertRaises(TypeError, made, **{attribute + "s": 1})

    def test_errors_without_attributes_are_made_without_arguments(self):
        for name in ("FormError", "StateError", *BARE_ERRORS):
            with self.subTest(name):
                self.assertEqual(vars(getattr(errors, name)()), {})

    def test_errors_are_raised_and_caught_by_name_and_by_base(self):
        for name, attribute in {**FORM_ERRORS, **STATE_ERRORS}.items():
            made = getattr(errors, name)
            base = errors.FormError if name in FORM_ERRORS else errors.StateError
            for caught in (made, base, base.__bases__[0]):
                with self.subTest(name, caught=caught.__name__), self.assertRaises(caught):
                    raise made() if attribute is None else made(None)

    def test_errors_are_true(self):
        for name, attribute in {**FORM_ERRORS, **STATE_ERRORS}.items():
            made = getattr(errors, name)
            self.assertTrue(made() if attribute is None else made(0), name)


if __name__ == "__main__":
    unittest.main()
