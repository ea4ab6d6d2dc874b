"""The text of a plan, written and read."""

import unittest

from everybill import errors
from everybill.errors import InvalidText
from everybill.plans import Plan
from tests.samples import FLEX, FULL, PLAIN, SAMPLES, raised
from tests.test_plans import plans_of_all_kinds

MONEY = 10 ** 9
FULL_LINES = (
    "fees 60 40",
    "tier 0 25",
    "tier 4 10",
    "tier 9 3",
    "tier 12 0",
    "included 12",
    "carry 3",
    "least 70",
    "most 900",
    "streak 16 1 30",
)


def text(*lines):
    return "\n".join(lines)


class WritingTest(unittest.TestCase):
    def test_the_example_of_the_interface(self):
        self.assertEqual(str(FLEX), "fees 60\ntier 0 25\ntier 4 10\nincluded 3\ncarry 2\nstreak 8 2 15")

    def test_a_plan_with_all_lines(self):
        self.assertEqual(str(FULL), text(*FULL_LINES))

    def test_a_plan_with_the_defaults_has_no_other_lines(self):
        self.assertEqual(str(PLAIN), "fees 120\ntier 0 10")

    def test_each_part_has_its_own_line(self):
        for line, part in (
            ("included 1", {"included": 1}),
            ("carry 1", {"carry": 1}),
            ("least 1", {"least": 1}),
            ("most 1000000000", {"most": MONEY}),
            ("most 0", {"most": 0}),
            ("streak 1 1 0", {"streak": (1, 1, 0)}),
        ):
            plan = Plan((0, 0), ((0, 0),), **part)
            self.assertEqual(str(plan), text("fees 0 0", "tier 0 0", line))


class ReadingTest(unittest.TestCase):
    def test_every_plan_is_read_back(self):
        for plan in plans_of_all_kinds():
            again = Plan.read(str(plan))
            self.assertEqual(again.form, plan.form)
            self.assertTrue(again == plan)
            self.assertEqual(str(again), str(plan))

    def test_what_is_read_is_a_plan_of_tuples_and_integers(self):
        form = Plan.read(text(*FULL_LINES)).form
        self.assertEqual(form, ((60, 40), ((0, 25), (4, 10), (9, 3), (12, 0)), 12, 3, 70, 900, (16, 1, 30)))
        self.assertIs(type(Plan.read("fees 1\ntier 0 2")), Plan)

    def test_any_of_the_last_lines_may_be_missing(self):
        for choice in range(2 ** 5):
            lines = FULL_LINES[:5] + tuple(line for at, line in enumerate(FULL_LINES[5:]) if choice >> at & 1)
            with self.subTest(lines):
                self.assertEqual(str(Plan.read(text(*lines))), text(*lines))

    def test_it_is_called_by_name_and_off_a_plan(self):
        self.assertEqual(Plan.read(text="fees 120\ntier 0 10"), PLAIN)
        self.assertEqual(FLEX.read("fees 120\ntier 0 10"), PLAIN)


class WrongLinesTest(unittest.TestCase):
    def refused(self, line, given):
        with self.subTest(given=repr(given)[:100]):
            found = raised(InvalidText, Plan.read, given).line
            self.assertEqual(found, line)
            self.assertIsNot(type(found), bool)

    def test_values_that_are_no_strings(self):
        for value in SAMPLES:
            if not isinstance(value, str):
                self.refused(None, value)

    def test_strings_without_a_plan(self):
        for value in SAMPLES:
            if isinstance(value, str) and value not in ("fees 60", "fees 60\ntier 0 25"):
                self.refused(0, value)

    def test_an_empty_text(self):
        self.refused(0, "")
        self.refused(0, "\n")

    def test_the_examples_of_the_interface(self):
        self.refused(2, "fees -1\ntier 0 5\ncarry 0")
        self.refused(1, "fees 60")

    def test_a_missing_tier(self):
        self.refused(1, "fees 60 40")
        self.refused(1, "fees 60\n")
        self.refused(1, "fees 60\nincluded 3")
        self.refused(1, "fees 60\nstreak 8 2 15")
        self.refused(1, "fees 60\nincluded 3\ntier 0 5")
        self.refused(1, "fees 60\n\ntier 0 5")

    def test_a_fifth_tier(self):
        self.refused(5, text(*FULL_LINES[:5], "tier 13 1"))
        self.refused(5, text(*FULL_LINES[:5], "tier 13 1", "included 0"))

    def test_fees_stand_first_and_once(self):
        self.refused(0, "tier 0 5")
        self.refused(0, "tier 0 5\nfees 60")
        self.refused(0, "included 3\nfees 60\ntier 0 5")
        self.refused(0, "\nfees 60\ntier 0 5")
        self.refused(1, "fees 60\nfees 60\ntier 0 5")
        self.refused(2, "fees 60\ntier 0 5\nfees 60")

    def test_lines_in_another_order_or_twice(self):
        others = FULL_LINES[5:]
        for first, early in enumerate(others):
            for late in others[first:]:
                self.refused(3, text("fees 60", "tier 0 5", late, early))
        self.refused(3, "fees 60\ntier 0 5\nincluded 3\ntier 4 5")
        self.refused(9, text(*FULL_LINES[:8], "streak 16 1 30", "most 900"))
        self.refused(10, text(*FULL_LINES, "streak 16 1 30"))

    def test_a_newline_at_the_end(self):
        self.refused(2, "fees 60\ntier 0 5\n")
        self.refused(3, "fees 60\ntier 0 5\nmost 9\n")
        self.refused(10, text(*FULL_LINES) + "\n")

    def test_empty_lines(self):
        self.refused(2, "fees 60\ntier 0 5\n\nmost 9")

    def test_a_number_0_in_included_carry_and_least(self):
        for word in ("included", "carry", "least"):
            self.refused(2, f"fees 60\ntier 0 5\n{word} 0")
            self.refused(2, f"fees 60\ntier 0 5\n{word} 0\nstreak 1 1 1")

    def test_words_and_blanks(self):
        for line in ("fees  60", "fees 60 ", " fees 60", "fees\t60", "fees", "fees ", "Fees 60", "fee 60", "fees60"):
            self.refused(0, text(line, "tier 0 5"))
        for line in ("60", "fees 60  40", "fees 60 40 20", "fees x", "fees 60 x", "fees 60,40", "fees 60 40 "):
            self.refused(0, text(line, "tier 0 5"))
        for line in (
            "tier 0", "tier 0 5 6", "tier  0 5", "tier 0  5", "tier 0 5 ", " tier 0 5", "tier", "tier a b", "tiers 0 5"
        ):
            self.refused(1, text("fees 60", line))
            self.refused(2, text("fees 60", "tier 0 1", line))
        for word in ("included", "carry", "least", "most"):
            for rest in ("", " ", "  1", " 1 ", " 1 2", " x", "s 1", "1"):
                self.refused(2, text("fees 60", "tier 0 5", word + rest))
            for line in (f" {word} 1", word.upper() + " 1", f"1 {word}"):
                self.refused(2, text("fees 60", "tier 0 5", line))
        for line in ("streak 8 2", "streak 8 2 15 1", "streak", "streak 8 2  15", "streak 8 2 15 ", "streak None"):
            self.refused(2, text("fees 60", "tier 0 5", line))
        for line in ("most None", "note 5", "form 1", "#"):
            self.refused(2, text("fees 60", "tier 0 5", line))

    def test_numbers_that_python_would_write_otherwise(self):
        for number in ("01", "00", "007", "+1", "+0", "-0", "-00", "-01", "--1", "-", "+", "1-", "- 1"):
            self.check_number(number)

    def test_numbers_in_other_writings(self):
        for number in ("1.0", "1e3", "1_0", "0x1", "True", "None", "", "one", "~", "1,0", "'1'", "(1)", "\u0663", "\u00b2", "1\t"):
            self.check_number(number)

    def test_numbers_with_sixteen_digits(self):
        for number in ("1" + "0" * 15, "-1" + "0" * 15, "9" * 16, "9" * 40, "-" + "9" * 4000, "0" * 16):
            self.check_number(number)

    def check_number(self, number):
        self.refused(0, text(f"fees {number}", "tier 0 5"))
        self.refused(0, text(f"fees 1 {number}", "tier 0 5"))
        self.refused(1, text("fees 60", f"tier {number} 5"))
        self.refused(1, text("fees 60", f"tier 0 {number}"))
        for word in ("included", "carry", "least", "most"):
            self.refused(2, text("fees 60", "tier 0 5", f"{word} {number}"))
        for numbers in (f"{number} 2 15", f"8 {number} 15", f"8 2 {number}"):
            self.refused(2, text("fees 60", "tier 0 5", f"streak {numbers}"))

    def test_the_first_wrong_line_counts(self):
        self.refused(0, "fees\ntier\nincluded 0")
        self.refused(1, "fees 60\ntier\nincluded 0")
        self.refused(2, "fees 60\ntier 0 5\nincluded 0\ncarry 0")
        self.refused(3, "fees 60\ntier 0 5\nincluded 1\ncarry 0\nleast 0")


class PlanErrorsTest(unittest.TestCase):
    def refused(self, name, told, given):
        with self.subTest(given=given):
            error = raised(getattr(errors, name), Plan.read, given)
            self.assertEqual(vars(error), told)

    def test_numbers_that_do_not_fit(self):
        self.refused("InvalidFees", {"value": (-1,)}, "fees -1\ntier 0 5")
        self.refused("InvalidFees", {"value": (0, MONEY + 1)}, "fees 0 1000000001\ntier 0 5")
        self.refused("InvalidTiers", {"index": 0}, "fees 60\ntier 1 5")
        self.refused("InvalidTiers", {"index": 0}, "fees 60\ntier -1 5")
        self.refused("InvalidTiers", {"index": 1}, "fees 60\ntier 0 5\ntier 13 5")
        self.refused("InvalidTiers", {"index": 2}, "fees 60\ntier 0 5\ntier 4 5\ntier 4 5")
        self.refused("InvalidIncluded", {"value": 13}, "fees 60\ntier 0 5\nincluded 13")
        self.refused("InvalidIncluded", {"value": -1}, "fees 60\ntier 0 5\nincluded -1")
        self.refused("InvalidCarry", {"value": 4}, "fees 60\ntier 0 5\ncarry 4")
        self.refused("InvalidCarry", {"value": -1}, "fees 60\ntier 0 5\ncarry -1")
        self.refused("InvalidLeast", {"value": -1}, "fees 60\ntier 0 5\nleast -1")
        self.refused("InvalidMost", {"value": 69}, "fees 60\ntier 0 5\nleast 70\nmost 69")
        self.refused("InvalidMost", {"value": -1}, "fees 60\ntier 0 5\nmost -1")
        self.refused("InvalidStreak", {"value": (0, 1, 0)}, "fees 60\ntier 0 5\nstreak 0 1 0")
        self.refused("InvalidStreak", {"value": (1, 3, 0)}, "fees 60\ntier 0 5\nstreak 1 3 0")
        self.refused("InvalidStreak", {"value": (1, 1, -1)}, "fees 60\ntier 0 5\nstreak 1 1 -1")

    def test_fifteen_digits_are_a_number(self):
        self.refused("InvalidFees", {"value": (10 ** 15 - 1,)}, "fees 999999999999999\ntier 0 5")
        self.refused("InvalidFees", {"value": (1 - 10 ** 15,)}, "fees -999999999999999\ntier 0 5")
        self.refused("InvalidMost", {"value": 10 ** 14}, "fees 60\ntier 0 5\nmost 100000000000000")

    def test_they_come_in_the_order_of_the_parts(self):
        wrong = ("fees -1", "tier 1 1", "included 13", "carry 4", "least -1", "most -1", "streak 0 0 0")
        right = ("fees 60", "tier 0 5", "included 1", "carry 1", "least 1", "most 1", "streak 1 1 1")
        names = "InvalidFees InvalidTiers InvalidIncluded InvalidCarry InvalidLeast InvalidMost InvalidStreak".split()
        for at, name in enumerate(names):
            raised(getattr(errors, name), Plan.read, text(*right[:at], *wrong[at:]))

    def test_a_wrong_line_comes_ahead_of_them(self):
        wrong = ("fees -1", "tier 1 1", "included 13", "carry 4", "least -1", "most -1", "streak 0 0 0")
        for at in range(len(wrong) + 1):
            error = raised(InvalidText, Plan.read, text(*wrong[:at], "note", *wrong[at:]))
            self.assertEqual(error.line, at)
        self.assertEqual(raised(InvalidText, Plan.read, "fees -1").line, 1)


if __name__ == "__main__":
    unittest.main()
