"""The errors of the functions over plans: each parameter with values of every kind, and several wrong ones at once."""

import inspect
import itertools
import unittest

from everybill import backwards, billing, certificates, histories, leads, states, thrift
from everybill.errors import InvalidAmount, InvalidBound, InvalidRuns, InvalidState
from everybill.errors import InvalidUse, InvalidUses, NoPlans, NotAPlan, NoUse
from everybill.histories import bills, long_run, state_after, total
from everybill.leads import lead, needless, never_ahead
from everybill.plans import Plan
from everybill.states import apart
from tests.samples import FLEX, FULL, PLAIN, SAMPLES, is_integer, raised

MONEY = 10 ** 9
TIMES = 10 ** 18


def all_bills(*given, **named):
    return list(bills(*given, **named))


def greatest_use(*given, **named):
    """Return None also where no use has such a bill, which is no error of a parameter."""
    try:
        return backwards.greatest_use(*given, **named)
    except NoUse:
        return None


# For each function its parameters in the order of their errors; those from `by_name` on are passed by name only.
CALLS = (
    (billing.bill, "plan state use", 3),
    (billing.after, "plan state use", 3),
    (billing.lines, "plan state use", 3),
    (billing.tail, "plan state", 2),
    (histories.bills, "plan uses state", 2),
    (histories.total, "plan runs state", 2),
    (histories.state_after, "plan runs state", 2),
    (histories.long_run, "plan uses state", 2),
    (states.states, "plan", 1),
    (states.apart, "one other state other_state", 2),
    (states.alike, "one other", 2),
    (states.classes, "plan", 1),
    (leads.lead, "one other most_use", 2),
    (leads.never_ahead, "one other by most_use", 3),
    (thrift.thrift, "plan most_use", 1),
    (thrift.is_thrifty, "plan", 1),
    (backwards.uses_for, "plan state amount", 3),
    (backwards.greatest_use, "plan state amount", 3),
    (certificates.certify_lead, "one other most_use", 2),
    (certificates.certify_alike, "one other", 2),
    (certificates.certify_thrift, "plan most_use", 1),
)
# What is called in place of a function to see its errors.
CALLED = {bills: all_bills, backwards.greatest_use: greatest_use}
VALID = {
    "plan": FLEX, "one": FLEX, "other": FLEX, "state": (2, 1, 0), "other_state": (1, 2, 0), "use": 5, "uses": (1, 7),
    "runs": (((1, 7), 3),), "most_use": None, "by": -5, "amount": 110,
}
ERRORS = {
    "plan": NotAPlan, "one": NotAPlan, "other": NotAPlan, "state": InvalidState, "other_state": InvalidState,
    "use": InvalidUse, "uses": InvalidUses, "runs": InvalidRuns, "most_use": InvalidBound, "by": InvalidAmount,
    "amount": InvalidAmount,
}
# Which of the sample values each parameter admits, by the words of the document, beside FLEX.
ADMITTED = {
    "plan": lambda v: type(v) is Plan,
    "one": lambda v: type(v) is Plan,
    "other": lambda v: type(v) is Plan,
    "state": lambda v: False,
    "other_state": lambda v: False,
    "use": lambda v: is_integer(v) and v >= 0,
    "uses": lambda v: type(v) is tuple and v in ((), (0,), (1, 2), (8, 2, 15)),
    "runs": lambda v: type(v) is tuple and v == (),
    "most_use": lambda v: v is None or is_integer(v) and v >= 0,
    "by": is_integer,
    "amount": is_integer,
}
WRONG = {
    "plan": "a plan", "one": None, "other": FLEX.form, "state": (0, 0, 1), "other_state": [0, 0, 0], "use": True,
    "uses": (1, True), "runs": (((1, 7), 3), ((), 3)), "most_use": -1, "by": "5", "amount": True,
}
TOLD = {"uses": ("index", 1), "runs": ("index", 1)}


def calls():
    """Return the triples of a function, the names of its parameters and what is called."""
    return [(function, names.split(), CALLED.get(function, function)) for function, names, by_name in CALLS]


class SignatureTest(unittest.TestCase):
    def test_names_and_kinds_of_the_parameters(self):
        for function, names, by_name in CALLS:
            wanted = [
                (name, inspect.Parameter.POSITIONAL_OR_KEYWORD if at < by_name else inspect.Parameter.KEYWORD_ONLY)
                for at, name in enumerate(names.split())
            ]
            found = [(name, part.kind) for name, part in inspect.signature(function).parameters.items()]
            self.assertEqual(found, wanted, function.__name__)
        kinds = [part.kind for part in inspect.signature(needless).parameters.values()]
        self.assertEqual(kinds, [inspect.Parameter.VAR_POSITIONAL])

    def test_what_is_left_out_stands_for_the_start_or_no_bound(self):
        for function, names, by_name in CALLS:
            for name, part in inspect.signature(function).parameters.items():
                if part.kind == inspect.Parameter.KEYWORD_ONLY:
                    self.assertEqual(part.default, None if name == "most_use" else (0, 0, 0))
                else:
                    self.assertIs(part.default, inspect.Parameter.empty)

    def test_by_name_and_by_position_is_the_same(self):
        for (function, names, by_name), (same, parts, called) in zip(CALLS, calls()):
            values = [VALID[name] for name in parts]
            by_position = called(*values[:by_name], **dict(zip(parts[by_name:], values[by_name:])))
            self.assertEqual(called(**dict(zip(parts, values))), by_position, function.__name__)
            if by_name < len(parts):
                self.assertRaises(TypeError, called, *values)


class KindsTest(unittest.TestCase):
    def test_values_of_every_kind_are_refused_or_taken(self):
        for function, names, called in calls():
            for name, value in itertools.product(names, SAMPLES):
                with self.subTest(function.__name__, name=name, value=repr(value)[:60]):
                    self.check_one(function, called, name, names, value)

    def check_one(self, function, called, name, names, value):
        given = {other: VALID[other] for other in names}
        if type(value) is Plan:
            # A state of one plan need not be a state of another one.
            given.update({other: (0, 0, 0) for other in names if other in ("state", "other_state")})
        given[name] = value
        if ADMITTED[name](value) and not (function is long_run and value == ()):
            called(**given)
        elif name in TOLD:
            self.assertEqual(raised(ERRORS[name], called, **given).index, self.first_wrong(name, value))
        else:
            self.assertIs(raised(ERRORS[name], called, **given).value, value)

    def first_wrong(self, name, value):
        """Return the index that is told; of the sample tuples each first one is no run."""
        if type(value) is not tuple or value == ():
            return None
        wrong = [at for at, use in enumerate(value) if name == "runs" or not (is_integer(use) and use >= 0)]
        return wrong[0]

    def test_needless(self):
        for value in SAMPLES:
            for plans in ((value,), (FLEX, value), (FLEX, value, value), (FLEX, PLAIN, FULL, value)):
                if type(value) is Plan:
                    self.assertIs(type(needless(*plans)), tuple)
                else:
                    self.assertIs(raised(NotAPlan, needless, *plans).value, value)
        raised(NoPlans, needless)
        self.assertEqual(raised(NotAPlan, needless, FLEX, 1, 2).value, 1)
        raised(NotAPlan, needless, (FLEX, PLAIN))


class OrderTest(unittest.TestCase):
    def test_of_several_wrong_parameters_the_first_one_counts(self):
        for function, names, called in calls():
            for choice in range(1, 2 ** len(names)):
                wrong = [name for at, name in enumerate(names) if choice >> at & 1]
                given = {name: WRONG[name] if name in wrong else VALID[name] for name in names}
                with self.subTest(function.__name__, wrong=wrong):
                    # The order in which they are passed does not count.
                    for passed in (given, dict(list(given.items())[::-1])):
                        error = raised(ERRORS[wrong[0]], called, **passed)
                        attribute, told = TOLD.get(wrong[0], ("value", WRONG[wrong[0]]))
                        self.assertEqual(vars(error), {attribute: told})

    def test_a_wrong_parameter_is_told_whatever_the_later_ones_are(self):
        for function, names, called in calls():
            for at, name in enumerate(names):
                for later in SAMPLES:
                    given = {other: VALID[other] for other in names[:at]}
                    given.update({other: later for other in names[at:]})
                    given[name] = WRONG[name]
                    with self.subTest(function.__name__, name=name, later=repr(later)[:60]):
                        raised(ERRORS[name], called, **given)

    def test_an_error_changes_nothing(self):
        forms = FLEX.form, FULL.form
        for function, names, called in calls():
            for name in names:
                raised(ERRORS[name], called, **{**{other: VALID[other] for other in names}, name: WRONG[name]})
        self.assertEqual((FLEX.form, FULL.form), forms)


class StateTest(unittest.TestCase):
    def refused(self, plan, value):
        for call in (
            lambda: billing.bill(plan, value, 0),
            lambda: billing.after(plan, value, 0),
            lambda: billing.lines(plan, value, 0),
            lambda: billing.tail(plan, value),
            lambda: all_bills(plan, (), state=value),
            lambda: total(plan, (), state=value),
            lambda: state_after(plan, (), state=value),
            lambda: long_run(plan, (1,), state=value),
            lambda: apart(plan, FLEX, state=value),
            lambda: apart(FLEX, plan, other_state=value),
            lambda: backwards.uses_for(plan, value, 0),
            lambda: backwards.greatest_use(plan, value, -1),
        ):
            with self.subTest(value=value, plan=plan.form):
                self.assertIs(raised(InvalidState, call).value, value)

    def test_the_bounds_of_its_own_plan(self):
        bare = Plan((60,), ((0, 25),), included=12)
        for value in ((1, 0, 0), (0, 1, 0), (0, 0, 1), (-1, 0, 0), (0, -1, 0), (0, 0, -1)):
            self.refused(bare, value)
        for value in ((3, 0, 0), (0, 3, 0), (0, 0, 1), (-1, 0, 0), (2, 2, 1), (10 ** 40 - 1, 0, 0)):
            self.refused(FLEX, value)
        for value in ((4, 0, 0), (0, 2, 0), (0, 0, 2), (3, 1, 2), (3, 1, -1)):
            self.refused(FULL, value)

    def test_truths_are_no_integers(self):
        for value in ((True, 0, 0), (0, True, 0), (0, 0, False), (False, 0, 0), (False, False, False), (1, 1, True)):
            self.refused(FULL, value)

    def test_other_forms(self):
        for value in ([0, 0, 0], (0, 0), (0, 0, 0, 0), (), "000", ((0, 0, 0),), (None, 0, 0), ("0", 0, 0), ((0,), 0, 0)):
            self.refused(FULL, value)

    def test_every_state_within_the_bounds_is_valid(self):
        for value in itertools.product(range(4), range(2), range(2)):
            billing.tail(FULL, value)
            self.assertIsNone(apart(FULL, FULL, state=value, other_state=value))
        billing.bill(FLEX, (2, 2, 0), 0)

    def test_each_state_is_one_of_its_own_plan(self):
        self.assertEqual(raised(InvalidState, apart, FLEX, PLAIN, state=(2, 0, 0), other_state=(2, 0, 0)).value, (2, 0, 0))
        self.assertEqual(raised(InvalidState, apart, PLAIN, FLEX, state=(1, 0, 0), other_state=(9, 0, 0)).value, (1, 0, 0))
        apart(FLEX, PLAIN, state=(2, 0, 0))
        apart(PLAIN, FLEX, other_state=(2, 0, 0))


class UsesTest(unittest.TestCase):
    def refused(self, uses, index):
        for call in (all_bills, long_run):
            with self.subTest(call.__name__, uses=repr(uses)[:60]):
                self.assertIs(raised(InvalidUses, call, FLEX, uses, state=None).index, index)

    def test_the_first_wrong_use_counts(self):
        for wrong in (True, False, -1, 1 - 10 ** 40, None, "1", (1,), [1], {}, FLEX, 1.0):
            for at in range(24):
                uses = (1,) * at + (wrong, None, -1)
                self.refused(uses[:24], at)

    def test_no_tuple(self):
        for uses in ([1, 7], [], 5, None, True, "17", {1: 7}, range(3), FLEX):
            self.refused(uses, None)

    def test_no_uses(self):
        self.assertIsNone(raised(InvalidUses, long_run, FLEX, ()).index)
        self.assertIsNone(raised(InvalidUses, long_run, FLEX, (), state=None).index)
        self.assertEqual(all_bills(FLEX, ()), [])

    def test_errors_of_the_generator_are_raised_ahead_of_the_first_pair(self):
        for given, named, error in (
            ((None, (1,)), {}, NotAPlan), ((FLEX, (1, -1)), {}, InvalidUses), ((FLEX, (1,)), {"state": 5}, InvalidState),
            ((FLEX, ()), {"state": (0, 0, 1)}, InvalidState),
        ):
            raised(error, lambda: next(bills(*given, **named)))


class RunsTest(unittest.TestCase):
    def refused(self, runs, index):
        for call in (total, state_after):
            with self.subTest(call.__name__, runs=repr(runs)[:60]):
                self.assertIs(raised(InvalidRuns, call, FLEX, runs, state=None).index, index)

    def test_no_tuple_of_at_most_eight(self):
        for runs in ([], [((1,), 1)], None, True, 5, "runs", {}, FLEX, (((1,), 1),) * 9, (None,) * 9, (((), -1),) * 30):
            self.refused(runs, None)

    def test_each_is_a_pair(self):
        for run in (None, True, 5, "ab", (), ((1,),), ((1,), 1, 1), [(1,), 1], (1, 1), (1, (1,)), {0: 1, 1: 1}, FLEX):
            self.refused((run,), 0)
            self.refused((((1,), 1), ((1,), 0), run, None), 2)
        self.refused(((1, 7), 3), 0)

    def test_one_to_six_uses(self):
        for uses in ((), (1,) * 7, [1], [], None, 5, "1", (True,), (1, False), (-1,), (1, 2, 3, 4, 5, -1), (None,), ((1,),)):
            self.refused(((uses, 1),), 0)
            self.refused(((uses, 0),), 0)
            self.refused((((1,), 1),) * 7 + ((uses, 1),), 7)

    def test_the_number_of_times(self):
        for times in (-1, TIMES + 1, 10 ** 40 - 1, True, False, None, "3", (3,), [3]):
            self.refused((((1, 7), times),), 0)
            self.refused((((1, 7), 1), ((1, 7), times)), 1)

    def test_the_edges_are_valid(self):
        for runs in ((), (((0,), 0),), (((0,) * 6, TIMES),) * 8, (((10 ** 40 - 1,), 1),)):
            self.assertIs(type(total(FLEX, runs)), int)
            self.assertIs(type(state_after(FLEX, runs)), tuple)


class BoundTest(unittest.TestCase):
    def test_bounds_and_amounts(self):
        for value in (-1, 1 - 10 ** 40, True, False, "5", (5,), [5], {}, FLEX):
            self.assertIs(raised(InvalidBound, lead, FLEX, PLAIN, most_use=value).value, value)
            self.assertIs(raised(InvalidBound, never_ahead, FLEX, PLAIN, 0, most_use=value).value, value)
            self.assertIs(raised(InvalidBound, thrift.thrift, FLEX, most_use=value).value, value)
            self.assertIs(raised(InvalidBound, certificates.certify_lead, FLEX, PLAIN, most_use=value).value, value)
            self.assertIs(raised(InvalidBound, certificates.certify_thrift, FLEX, most_use=value).value, value)
        for value in (None, True, False, "5", (5,), [5], {}, FLEX):
            self.assertIs(raised(InvalidAmount, never_ahead, FLEX, PLAIN, value).value, value)
            self.assertIs(raised(InvalidAmount, never_ahead, FLEX, PLAIN, value, most_use=-1).value, value)
            self.assertIs(raised(InvalidAmount, backwards.uses_for, FLEX, (0, 0, 0), value).value, value)
            self.assertIs(raised(InvalidAmount, backwards.greatest_use, FLEX, (0, 0, 0), value).value, value)
        for value in (None, 0, 10 ** 40 - 1):
            lead(FLEX, PLAIN, most_use=value)
            never_ahead(FLEX, PLAIN, 1 - 10 ** 40, most_use=value)


if __name__ == "__main__":
    unittest.main()
