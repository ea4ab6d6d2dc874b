"""Certificates of what is told, each accepted by the checker."""

import random
import unittest

from everybill.certificates import certify_alike, certify_cheapest, certify_lead, certify_thrift
from everybill.checker import accepts
from everybill.choosing import cheapest
from everybill.errors import InvalidAmount, InvalidBound, InvalidUses, NoPlans, NotAPlan
from everybill.leads import lead
from everybill.plans import Plan
from everybill.states import apart
from everybill.thrift import thrift
from tests.makers import MONEY, WIDEST, great_plan, great_plans, narrow_plan, narrow_plans, pairs_of, small_plan
from tests.makers import small_plans, told_otherwise, with_parts
from tests.samples import FLEX, FULL, PLAIN, SAMPLES, is_integer, raised
from tests.slow import is_plain, slow_bill, slow_lead, slow_loss
from tests.slow_checker import slow_accepts

FAR = 10 ** 40 - 1
BOUNDS = (None, None, 0, 3, 20, MONEY, FAR)


class CertificatesCase(unittest.TestCase):
    def accepted(self, pair):
        """Check that the checker accepts this pair, and that it is made of tuples, strings, None and integers."""
        claim, certificate = pair
        self.assertIs(accepts(claim, certificate), True, pair)
        self.assertTrue(is_plain(pair))
        self.assertEqual((type(pair), len(pair)), (tuple, 2))

    def all_pairs(self):
        pairs = [*pairs_of(111, 150, small_plan), *pairs_of(109, 60, narrow_plan), *pairs_of(112, 60, great_plan)]
        return [*pairs, *told_otherwise()]


class ExamplesTest(unittest.TestCase):
    def test_the_examples_of_the_interface(self):
        even, uneven = Plan((120,), ((0, 10),)), Plan((100, 140), ((0, 10),))
        ahead, never = certify_lead(even, uneven)
        self.assertEqual(
            [
                ahead[0][0], ahead[0][4], never[0][4], accepts(never[0], never[1]), certify_alike(even, uneven)[0][0],
            ],
            ["ahead", 20, 20, True, "apart"],
        )


class LeadTest(CertificatesCase):
    def test_what_lead_tells(self):
        words = {}
        for at, (one, other) in enumerate(self.all_pairs()):
            most_use = BOUNDS[at % len(BOUNDS)]
            found, told = lead(one, other, most_use=most_use), certify_lead(one, other, most_use=most_use)
            self.assertIs(type(told), tuple)
            for pair in told:
                self.accepted(pair)
            self.assertEqual(told, certify_lead(one, other, most_use=most_use))
            words[found[0]] = words.get(found[0], 0) + 1
            forms = (one.form, other.form)
            if found[0] == "number":
                ahead, never = told
                self.assertEqual(ahead, (("ahead", *forms, found[2], found[1]), None))
                self.assertEqual(never[0], ("never", *forms, most_use, found[1]))
                self.assertEqual(slow_lead(one, other, found[2]), found[1])
            else:
                self.assertEqual([(claim[:3], none) for claim, none in told], [((found[0], *forms), None)])
                self.check_shown(one, other, told[0][0], most_use)
        self.assertGreater(min(words.get(word, 0) for word in ("ray", "loop", "number")), 5)

    def check_shown(self, one, other, claim, most_use):
        """Check that what is shown stays below the bound, and that a loop gains."""
        uses = [*claim[3], *(claim[4] if claim[0] == "loop" else ())]
        self.assertTrue(most_use is None or max(uses) <= most_use)
        if claim[0] == "loop":
            self.assertGreater(slow_lead(one, other, claim[3] + claim[4]), slow_lead(one, other, claim[3]))
        else:
            self.assertIsNone(most_use)

    def test_beside_the_slow_checker(self):
        for one, other in pairs_of(113, 40, small_plan):
            for pair in certify_lead(one, other):
                self.assertTrue(slow_accepts(*pair))

    def test_a_far_use(self):
        one, other = Plan((0,), ((0, 1),), most=MONEY // 2), Plan((0, MONEY), ((0, 0),))
        ahead, never = certify_lead(one, other)
        self.assertEqual(ahead[0][3:], ((MONEY // 2,), MONEY // 2))
        self.accepted(never)


class AlikeTest(CertificatesCase):
    def test_what_apart_tells(self):
        words = {}
        for one, other in self.all_pairs():
            history, pair = apart(one, other), certify_alike(one, other)
            self.accepted(pair)
            self.assertEqual(pair, certify_alike(one, other))
            if history is None:
                self.assertEqual(pair[0], ("alike", one.form, other.form))
            else:
                self.assertEqual(pair, (("apart", one.form, other.form, history), None))
            words[pair[0][0]] = words.get(pair[0][0], 0) + 1
        self.assertGreater(min(words.values()), 10)

    def test_beside_the_slow_checker(self):
        for one, other in [*told_otherwise(), (FLEX, FLEX), (FULL, FULL), (PLAIN, FLEX)]:
            self.assertTrue(slow_accepts(*certify_alike(one, other)))


class ThriftTest(CertificatesCase):
    def test_what_thrift_tells(self):
        words = {}
        for at, plan in enumerate([*small_plans(114, 150), *narrow_plans(110, 150), *great_plans(115, 60), *WIDEST]):
            most_use = BOUNDS[at % len(BOUNDS)]
            found, told = thrift(plan, most_use=most_use), certify_thrift(plan, most_use=most_use)
            self.assertIs(type(told), tuple)
            for pair in told:
                self.accepted(pair)
            self.assertEqual(told, certify_thrift(plan, most_use=most_use))
            words[found[0]] = words.get(found[0], 0) + 1
            if found[0] == "number":
                lost, thrifty = told
                self.assertEqual(lost, (("lost", plan.form, found[2], found[1]), None))
                self.assertEqual(thrifty[0], ("thrifty", plan.form, most_use, found[1]))
            else:
                (claim, none), = told
                self.assertEqual((claim[:2], none), (("losing", plan.form), None))
                self.assertGreater(slow_loss(plan, claim[2] + claim[3]), slow_loss(plan, claim[2]))
                self.assertTrue(most_use is None or max(more for less, more in claim[2] + claim[3]) <= most_use)
        self.assertGreater(min(words.values()), 50)

    def test_beside_the_slow_checker(self):
        for plan in small_plans(116, 30):
            for pair in certify_thrift(plan):
                self.assertTrue(slow_accepts(*pair))


class CheapestTest(CertificatesCase):
    def test_what_cheapest_tells(self):
        chooser = random.Random(117)
        plans = [*small_plans(118, 30), *great_plans(119, 10), *WIDEST]
        for at in range(80):
            chosen = [chooser.choice(plans) for plan in range(1 + at % 4)]
            chosen = chosen if at % 3 else [*chosen[:-1], chosen[0]]
            uses = tuple(chooser.choice((0, 2, 9, 14, 40, MONEY, FAR)) for use in range(chooser.choice((0, 1, 5, 24))))
            change = chooser.choice((0, 1, 7, MONEY, FAR))
            pair = certify_cheapest(uses, *chosen, change=change)
            self.accepted(pair)
            self.assertEqual(pair, certify_cheapest(uses, *chosen, change=change))
            cost, row = cheapest(uses, *chosen, change=change)
            self.assertEqual(pair[0], ("cheapest", tuple(plan.form for plan in chosen), uses, change, row))
            if uses:
                self.assertEqual(min(pair[1][-1]), cost)
            if len(uses) < 6:
                self.assertTrue(slow_accepts(*pair))

    def test_a_change_that_is_left_out_costs_nothing(self):
        self.assertEqual(certify_cheapest((1, 9), FLEX, PLAIN), certify_cheapest((1, 9), FLEX, PLAIN, change=0))
        self.assertEqual(certify_cheapest((), FLEX), (("cheapest", (FLEX.form,), (), 0, ()), ()))

    def test_errors_are_those_of_cheapest(self):
        self.assertEqual(raised(InvalidUses, certify_cheapest, (1, -1), None, change=-1).index, 1)
        self.assertIsNone(raised(InvalidUses, certify_cheapest, [1]).index)
        raised(NoPlans, certify_cheapest, (1,), change=-1)
        for value in SAMPLES:
            if type(value) is not Plan:
                self.assertIs(raised(NotAPlan, certify_cheapest, (1,), FLEX, value, 5, change=-1).value, value)
            if not (is_integer(value) and value >= 0):
                self.assertIs(raised(InvalidAmount, certify_cheapest, (1,), FLEX, change=value).value, value)


class PassedOnTest(CertificatesCase):
    def test_results_may_be_passed_to_other_functions(self):
        # A lead of many digits, whose amount is used as a bound and as a use again.
        dear = with_parts(PLAIN, tiers=((0, MONEY),))
        amount = slow_lead(dear, Plan((0,), ((0, 0),)), (FAR,) * 3)
        for most_use in (amount, slow_bill(dear, (0, 0, 0), amount)):
            for pair in (*certify_lead(PLAIN, dear, most_use=most_use), *certify_thrift(FLEX, most_use=most_use)):
                self.accepted(pair)
            self.accepted(certify_cheapest((most_use, 0, most_use), PLAIN, dear, change=most_use))
        raised(InvalidBound, certify_lead, PLAIN, dear, most_use=-amount)


if __name__ == "__main__":
    unittest.main()
