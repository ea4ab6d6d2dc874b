"""What the checker accepts, beside a slow checker, and what nobody can make it accept."""

import ast
import pathlib
import random
import unittest

from everybill.billing import bill
from everybill.certificates import certify_alike, certify_cheapest, certify_lead, certify_thrift
from everybill.checker import accepts
from everybill.leads import lead
from everybill.pairs import explored
from everybill.plans import Plan
from tests.makers import MONEY, WIDEST, great_plan, narrow_plan, narrow_plans, pairs_of, small_plan, small_plans
from tests.makers import told_otherwise, with_parts
from tests.samples import FLEX, FULL, PLAIN, SAMPLES
from tests.slow import all_states, slow_after, slow_bill, slow_lead, slow_loss, slow_state
from tests.slow_checker import deciding_uses, slow_accepts

START = (0, 0, 0)
HALF = MONEY // 2
EVEN, UNEVEN = Plan((120,), ((0, 10),)).form, Plan((100, 140), ((0, 10),)).form
TABLED = ("never", "alike", "thrifty", "cheapest")


def paths(value, path=()):
    """Return the paths to all places within nested tuples, the whole one included."""
    found = [path]
    if type(value) is tuple:
        for at, part in enumerate(value):
            found.extend(paths(part, (*path, at)))
    return found


def at_path(value, path):
    for at in path:
        value = value[at]
    return value


def replaced(value, path, new):
    if not path:
        return new
    at = path[0]
    return (*value[:at], replaced(value[at], path[1:], new), *value[at + 1:])


def near(value, chooser):
    """Return values that are near to this one: one number, element or row otherwise."""
    if type(value) is int:
        return [value + 1, value - 1, -value, bool(value % 2), MONEY, 10 ** 40 - 1, None, (value,), str(value)]
    if type(value) is tuple:
        found = [list(value), (*value, None), (*value, 0), (value,), value + value[:1], ()]
        if value:
            cut = chooser.randrange(len(value))
            found.extend([value[:-1], value[1:], value[:cut] + value[cut + 1:], value[:cut] + value[cut:cut + 1] * 2])
            found.extend([value[::-1], (*value[:cut], *value[cut + 1:], value[cut])])
        return found
    return [0, 1, (), False, "x"]


def pairs_told(one, other, most_use=None):
    """Return the pairs of claims and certificates for these plans."""
    told = [*certify_lead(one, other, most_use=most_use), *certify_thrift(one, most_use=most_use), certify_alike(one, other)]
    return [*told, certify_cheapest((3, 0, 9, 1), one, other, one, change=2), certify_cheapest((7,), one)]


def whole_table(one, other, amount):
    """Return a table for "never" with all pairs of states, most of which no history reaches, or None if some may gain.

    Each number is as great as can be; one of the amount means that nothing is gained from there.
    """
    pairs = [(state, beside) for state in all_states(one) for beside in all_states(other)]
    table = explored(one, other, pairs)
    numbers = {pair: amount for pair in pairs}
    for length in range(len(pairs) + 1):
        before = dict(numbers)
        for pair, rows in table.items():
            for row in rows:
                if row.last is None and row.step > 0:
                    return None
                uses = (row.first, row.first if row.last is None else row.last)
                gap = max(row.gap + (use - row.first) * row.step for use in uses)
                numbers[pair] = min(numbers[pair], numbers[row.pair] - gap)
        if numbers == before:
            return tuple(sorted((*pair, number) for pair, number in numbers.items()))
    return None


def whole_losses(plan, amount):
    """Return a table for "thrifty" with all pairs of states with the same TURN, the greatest one, or None if too low."""
    uses = sorted(deciding_uses(plan.form))
    rows = {state: [(slow_bill(plan, state, use), slow_after(plan, state, use)) for use in uses] for state in all_states(plan)}
    numbers = {(state, beside): amount for state in rows for beside in rows if state[2] == beside[2]}
    steps = {}
    for state, beside in numbers:
        dearest, found = {}, {}
        for (bill, behind), (more, behind_too) in zip(rows[state], rows[beside]):
            dearest[behind] = max(bill, dearest.get(behind, bill))
            for behind, bill in dearest.items():
                found[behind, behind_too] = max(bill - more, found.get((behind, behind_too), bill - more))
        steps[state, beside] = found
    for length in range(len(numbers)):
        before = dict(numbers)
        for pair, found in steps.items():
            numbers[pair] = min([numbers[pair], *[numbers[behind] - loss for behind, loss in found.items()]])
        if numbers == before:
            return tuple(sorted((*pair, number) for pair, number in numbers.items()))
    return None


class CheckerCase(unittest.TestCase):
    def compare(self, claim, certificate):
        found = accepts(claim, certificate)
        self.assertIs(found, slow_accepts(claim, certificate), (claim, certificate))
        return found

    def accepted(self, claim, certificate=None):
        self.assertIs(accepts(claim, certificate), True, (claim, certificate))

    def rejected(self, claim, certificate=None):
        self.assertIs(accepts(claim, certificate), False, (claim, certificate))


class ExamplesTest(CheckerCase):
    def test_the_examples_of_the_interface(self):
        self.assertEqual(
            [
                accepts(("ahead", EVEN, UNEVEN, (0,), 20), None), accepts(("apart", EVEN, UNEVEN, (7,)), None),
                accepts(("loop", EVEN, UNEVEN, (), (0,)), None),
            ],
            [True, True, False],
        )
        rows = ((START, START, 0), (START, (0, 0, 1), 20))
        self.assertEqual(
            [
                accepts(("never", EVEN, UNEVEN, None, 20), rows), accepts(("never", EVEN, UNEVEN, None, 19), rows),
                accepts(("alike", EVEN, EVEN), ((START, START),)),
            ],
            [True, False, True],
        )


class NearTest(CheckerCase):
    """True claims, and the same with one number, pair or row otherwise, beside the slow checker."""

    def check_near(self, pairs, seed, many):
        chooser = random.Random(seed)
        words = {}
        for at, (one, other) in enumerate(pairs):
            for claim, certificate in pairs_told(one, other, (None, None, 3, 20)[at % 4]):
                self.assertTrue(self.compare(claim, certificate))
                both = (claim, certificate)
                places = paths(both)[1:]
                for path in chooser.sample(places, min(many, len(places))):
                    new = chooser.choice(near(at_path(both, path), chooser))
                    changed = replaced(both, path, new)
                    if changed != both:
                        key = (claim[0], self.compare(*changed))
                        words[key] = words.get(key, 0) + 1
        return words

    def test_near_claims_of_small_plans(self):
        words = self.check_near([*pairs_of(91, 40, small_plan), *told_otherwise()], 92, 25)
        for word in ("ahead", "loop", "ray", "never", "apart", "alike", "lost", "losing", "thrifty", "cheapest"):
            self.assertGreater(words[word, False], 20, word)
            if word not in ("ahead", "alike"):
                self.assertGreater(words[word, True], 2, word)

    def test_near_claims_of_great_plans(self):
        self.check_near(pairs_of(93, 20, great_plan), 94, 25)

    def test_near_claims_of_plans_with_narrow_tiers(self):
        self.check_near(pairs_of(96, 20, narrow_plan), 97, 25)

    def test_each_number_of_a_table(self):
        seen = set()
        for one, other in pairs_of(95, 40, small_plan):
            for claim, table in pairs_told(one, other):
                if claim[0] in ("never", "thrifty"):
                    for at, row in list(enumerate(table))[:6]:
                        for number in (row[2] - 1, row[2] + 1):
                            found = self.compare(claim, replaced(table, (at, 2), number))
                            seen.add((claim[0], number < row[2], found))
                        self.compare(claim, table[:at] + table[at + 1:])
        self.assertEqual(len({key[:2] for key in seen if not key[2]}), 4)


class NumberTest(CheckerCase):
    def test_ahead(self):
        for one, other in pairs_of(101, 60, small_plan):
            for history in ((), (0,), (5, 0, 30), (10 ** 40 - 1, 3)):
                amount = slow_lead(one, other, history)
                claim = ("ahead", one.form, other.form, history, amount)
                self.accepted(claim)
                self.rejected((*claim[:4], amount + 1))
                self.rejected((*claim[:4], amount - 1))
                self.rejected(claim, ())

    def test_lost(self):
        for plan, other in pairs_of(102, 60, small_plan):
            for pairs in ((), ((0, 0),), ((3, 5), (0, 9), (20, 20)), ((0, 10 ** 40 - 1),)):
                amount = slow_loss(plan, pairs)
                self.accepted(("lost", plan.form, pairs, amount))
                self.rejected(("lost", plan.form, pairs, amount + 1))
        for pairs in (((5, 3),), ((1, -1),), ((-1, 1),), ((1,),), ((1, 2, 3),), ([1, 2],), (1, 2), ((True, 1),), [(1, 2)]):
            self.rejected(("lost", PLAIN.form, pairs, 0))
            self.rejected(("losing", PLAIN.form, pairs, ((0, 0),)))
            self.rejected(("losing", PLAIN.form, (), pairs))

    def test_long_histories(self):
        one, other = FLEX, with_parts(FLEX, included=4)
        history = (1, 7, 0, 12, 30) * 800
        amount = slow_lead(one, other, history)
        self.accepted(("ahead", one.form, other.form, history, amount))
        self.rejected(("ahead", one.form, other.form, history, amount + 1))
        self.accepted(("loop", one.form, other.form, history, history))
        self.rejected(("loop", other.form, one.form, history, history))
        self.accepted(("apart", one.form, other.form, (*history, 4)))
        pairs = ((1, 7), (0, 12), (30, 30)) * 800
        self.accepted(("lost", one.form, pairs, slow_loss(one, pairs)))
        self.rejected(("lost", one.form, pairs, slow_loss(one, pairs) - 1))


class LoopTest(CheckerCase):
    def test_a_loop_leads_back_and_adds_something(self):
        dearer = with_parts(FLEX, fees=(61,))
        self.accepted(("loop", dearer.form, FLEX.form, (), (3,)))
        self.accepted(("loop", dearer.form, FLEX.form, (0,), (1,)))
        self.rejected(("loop", dearer.form, FLEX.form, (), (1,)))
        self.rejected(("loop", dearer.form, FLEX.form, (3,), ()))
        self.rejected(("loop", FLEX.form, dearer.form, (), (3,)))
        self.rejected(("loop", FLEX.form, FLEX.form, (), (3,)))
        # Whether there is a ray or not.
        self.accepted(("loop", Plan((9,), ((0, 2),)).form, Plan((0,), ((0, 1),)).form, (), (0,)))

    def test_a_losing_loop(self):
        busy = Plan((100,), ((0, 10),), streak=(5, 1, 30))
        self.accepted(("losing", busy.form, ((4, 5),), ((4, 5),)))
        self.accepted(("losing", busy.form, ((4, 5),), ((4, 5), (4, 5))))
        self.rejected(("losing", busy.form, (), ((4, 5),)))
        self.rejected(("losing", busy.form, ((4, 5),), ()))
        self.rejected(("losing", busy.form, ((4, 5),), ((1, 5),)))
        self.rejected(("losing", busy.form, ((4, 5),), ((5, 5),)))
        self.assertNotEqual(slow_state(busy, (5,)), slow_state(busy, (4,)))


class RayTest(CheckerCase):
    def test_from_just_where_it_begins(self):
        one, other = Plan((0,), ((0, 1),), least=MONEY), Plan((MONEY,), ((0, 0),))
        self.accepted(("ray", one.form, other.form, (), MONEY))
        self.rejected(("ray", one.form, other.form, (), MONEY - 1))
        self.accepted(("ray", one.form, other.form, (5, 0), MONEY + 1))
        self.accepted(("ray", one.form, other.form, (), 10 ** 40 - 1))
        self.rejected(("ray", other.form, one.form, (), MONEY))
        self.rejected(("ray", one.form, other.form, (), -1))

    def test_one_use_far_out_at_which_the_lead_does_not_grow(self):
        rising = Plan((0,), ((0, 2),))
        for other in (Plan((0,), ((0, 1), (12, 1)), least=HALF), Plan((5,), ((0, 1),), streak=(1, 1, MONEY))):
            self.accepted(("ray", rising.form, other.form, (1,), 0))
        # The other plan costs nothing up to OFF, then a unit costs as much as with the first plan, or more.
        for price, wanted in ((1, True), (2, False), (3, False)):
            other = Plan((0,), ((0, price),), streak=(1, 1, MONEY))
            self.assertIs(accepts(("ray", rising.form, other.form, (1,), 0), None), wanted)
            self.assertIs(slow_accepts(("ray", rising.form, other.form, (1,), 0), None), wanted)
        # The price of one unit alone is greater, just where the last tier begins.
        other = Plan((0,), ((0, 1), (11, 9), (12, 1)))
        self.accepted(("ray", rising.form, other.form, (), 12))
        self.rejected(("ray", rising.form, other.form, (), 11))
        self.rejected(("ray", rising.form, other.form, (), 0))
        capped = Plan((0,), ((0, 2),), most=MONEY + 1 - 1)
        self.rejected(("ray", capped.form, Plan((0,), ((0, 1),)).form, (), 0))

    def test_only_the_unit_that_leads_to_a_turn_adds_too_little(self):
        # From 4 to 5 the first plan adds 1 and the other one, which leaves its least bill, adds 4.
        one, other = Plan((0,), ((0, 1), (5, 10))), Plan((0,), ((0, 5),), least=21)
        for far in range(9):
            self.assertEqual(self.compare(("ray", one.form, other.form, (), far), None), far > 4)
        # The same where the other plan leaves the uses that cost nothing by OFF.
        other = Plan((0,), ((0, 5),), streak=(1, 1, 21))
        self.rejected(("ray", one.form, other.form, (1,), 4))
        self.rejected(("ray", one.form, other.form, (1,), 0))
        self.accepted(("ray", one.form, other.form, (1,), 5))

    def test_each_use_near_the_turns(self):
        plans = [Plan((3,), ((0, 1), (4, 5), (9, 2)), included=2, carry=2, least=9, streak=(6, 1, 4)), FLEX, FULL, PLAIN]
        plans.append(Plan((0,), ((0, 0), (7, 3)), included=1, least=4, most=40))
        seen = set()
        for one in plans:
            for other in plans:
                for history in ((), (0,), (20,)):
                    for far in (0, 1, 3, 6, 8, 12, 15, 24, 30, MONEY):
                        seen.add(self.compare(("ray", one.form, other.form, history, far), None))
        self.assertEqual(seen, {False, True})


class NeverTest(CheckerCase):
    def test_a_lead_at_one_use_far_out(self):
        one, other = Plan((0,), ((0, 1),), most=HALF), Plan((0, MONEY), ((0, 0),))
        for most_use, amount in ((None, HALF), (HALF, HALF), (HALF - 1, HALF - 1), (MONEY, HALF), (0, 0)):
            claim, table = certify_lead(one, other, most_use=most_use)[1]
            self.assertEqual(claim[3:], (most_use, amount))
            self.accepted(claim, table)
            self.rejected((*claim[:4], amount - 1), table)
            if most_use in (0, HALF - 1):
                for greater in (None, most_use + 1, 10 ** 40 - 1):
                    self.rejected((*claim[:3], greater, amount), table)
            for lower in range(0 if most_use is None else most_use, -1, -max(1, HALF // 7)):
                self.accepted((*claim[:3], lower, amount), table)

    def test_the_lead_grows_without_end(self):
        one, other = Plan((0,), ((0, 1),), least=MONEY), Plan((MONEY,), ((0, 0),))
        for number in (0, 1, MONEY, 10 ** 40 - 1):
            self.rejected(("never", one.form, other.form, None, number), ((START, START, 0),))
            self.rejected(("never", one.form, other.form, None, number), ((START, START, number),))
        self.accepted(("never", one.form, other.form, MONEY, 0), ((START, START, 0),))
        self.rejected(("never", one.form, other.form, MONEY + 1, 0), ((START, START, 0),))

    def test_tables_with_pairs_that_no_history_reaches(self):
        extra = 0
        for one, other in [*pairs_of(103, 60, small_plan), (FLEX, with_parts(FLEX, fees=(61,))), (FULL, FULL)]:
            found = lead(one, other)
            if found[0] == "number":
                rows = whole_table(one, other, found[1])
                if rows is None:
                    continue
                self.assertTrue(self.compare(("never", one.form, other.form, None, found[1]), rows))
                extra += len(rows) > len(certify_lead(one, other)[1][1])
                # A pair that no history reaches counts as each other one does.
                lowest = min(range(len(rows)), key=lambda at: rows[at][2])
                self.compare(("never", one.form, other.form, None, found[1]), rows[:lowest] + rows[lowest + 1:])
                raised = replaced(rows, (lowest, 2), found[1])
                self.compare(("never", one.form, other.form, None, found[1]), raised)
        self.assertGreater(extra, 10)

    def test_states_of_other_plans(self):
        plan = Plan((0, 0), ((0, 0),), carry=2, streak=(1, 1, 5))
        bare = Plan((0,), ((0, 0),))
        inside = [(carried, busy, turn) for carried in range(3) for busy in range(2) for turn in range(2)]
        whole = tuple((state, START, 0) for state in sorted(inside))
        self.accepted(("never", plan.form, bare.form, None, 0), whole)
        self.accepted(("never", bare.form, plan.form, None, 0), tuple((START, state, 0) for state, beside, number in whole))
        states = ((-1, 0, 0), (3, 0, 0), (0, -1, 0), (0, 2, 0), (0, 0, -1), (0, 0, 2), (10 ** 40 - 1, 0, 0), (0, 0, 10 ** 9))
        for state in states:
            self.rejected(("never", plan.form, bare.form, None, 0), tuple(sorted((*whole, (state, START, 0)))))
            rows = tuple((START, held, 0) for held in sorted((*inside, state)))
            self.rejected(("never", bare.form, plan.form, None, 0), rows)
        for state in ((1, 0, 0), (0, 1, 0), (0, 0, 1), (-1, 0, 0), (0, -1, 0), (0, 0, -1)):
            rows = sorted([START, state])
            self.rejected(("never", bare.form, bare.form, None, 0), tuple((held, START, 0) for held in rows))
            self.rejected(("alike", bare.form, bare.form), tuple((START, held) for held in rows))
            self.rejected(("thrifty", bare.form, None, 0), tuple((held, START, 0) for held in rows))

    def test_rows_of_other_forms(self):
        claim = ("never", EVEN, UNEVEN, None, 20)
        good = ((START, START, 0), (START, (0, 0, 1), 20))
        self.accepted(claim, good)
        for rows in (
            (), good[:1], good[1:], good[::-1], (good[0], good[0], good[1]), ((START, START, -1), *good), list(good),
            tuple(list(row) for row in good), ((START, START, 0, 0), good[1]), ((START, START), good[1]),
            ((START, START, True), good[1]), ((START, START, False), good[1]), ((START, START, None), good[1]),
            (([0, 0, 0], START, 0), good[1]), (((0, 0, False), START, 0), good[1]), (((0, 0), START, 0), good[1]),
            (*good, ((0, 0, 1), START, 5)), (*good, (START, (0, 0, 2), 20)), ((START, START, -1), good[1]),
            (good[0], (START, (0, 0, 1), 21)), (good[0], (START, (0, 0, 1), 19)), ((START, START, 1), good[1]), None,
            (good[0], good[1], (START, (0, 0, 1), 20)), {good[0]: good[1]}, "never", 0, True,
        ):
            self.rejected(claim, rows)
        # A lower number of a pair that is not the start is not enough, a greater amount is.
        self.accepted((*claim[:4], 21), good)
        self.rejected((*claim[:4], 21), (good[0], (START, (0, 0, 1), 21)))
        self.accepted((*claim[:4], 21), ((START, START, 1), (START, (0, 0, 1), 21)))
        self.rejected((*claim[:4], -1), ((START, START, -1), (START, (0, 0, 1), -1)))


class AlikeTest(CheckerCase):
    def test_plans_told_otherwise(self):
        for one, other in told_otherwise():
            claim, table = certify_alike(one, other)
            self.accepted(claim, table)
            for at in range(len(table)):
                self.rejected(claim, table[:at] + table[at + 1:])
            self.rejected(claim, table[::-1] if len(table) > 1 else (*table, *table))
            self.rejected(claim, tuple((*row, 0) for row in table))

    def test_plans_that_are_apart_at_one_use_far_out(self):
        pairs = [(START, START)]
        one = Plan((0,), ((0, 1),), most=MONEY)
        for other in (Plan((0,), ((0, 1),)), Plan((0,), ((0, 1),), most=MONEY - 1), Plan((1,), ((0, 1),), most=MONEY)):
            self.rejected(("alike", one.form, other.form), tuple(pairs))
            self.rejected(("alike", other.form, one.form), tuple(pairs))
        self.accepted(("alike", one.form, with_parts(one, least=0).form), tuple(pairs))
        states = tuple((state, state) for state in ((0, 0, 0), (0, 1, 0)))
        streak = Plan((0,), ((0, 1),), streak=(1, 1, MONEY))
        self.accepted(("alike", streak.form, streak.form), states)
        self.rejected(("alike", streak.form, with_parts(streak, streak=(1, 1, MONEY - 1)).form), states)

    def test_tables_with_pairs_that_no_history_reaches(self):
        plan = Plan((5,), ((0, 0),), included=3, carry=1)
        states = [(carried, 0, 0) for carried in (0, 1)]
        whole = tuple((state, beside) for state in states for beside in states)
        self.accepted(("alike", plan.form, plan.form), whole)
        carrying = with_parts(plan, tiers=((0, 1),))
        self.rejected(("alike", carrying.form, carrying.form), whole)
        self.accepted(("alike", carrying.form, carrying.form), (whole[0], whole[3]))

    def test_apart(self):
        one, other = Plan((60,), ((0, 25),), included=3), Plan((60,), ((0, 25),), included=3, carry=1)
        self.accepted(("apart", one.form, other.form, (0, 4)))
        self.accepted(("apart", one.form, other.form, (9, 0, 5)))
        for history in ((), (4,), (0, 3), (0, 4, 1), (3, 4), [0, 4], (0, True), (0, -4), None):
            self.rejected(("apart", one.form, other.form, history))


class ThriftyTest(CheckerCase):
    def test_a_loss_at_one_use_far_out(self):
        for plan, bound in (
            (Plan((0,), ((0, 3), (6, 2)), included=4, carry=1, most=121055819, streak=(5, 1, 1)), 60527911),
            (Plan((2, 1), ((0, 2), (8, 1), (12, 1)), included=3, carry=1, most=MONEY, streak=(4, 2, 1)), 999999993),
        ):
            lost, (claim, table) = certify_thrift(plan, most_use=bound)
            self.accepted(claim, table)
            for most_use in (None, bound + 1, 10 ** 40 - 1):
                self.rejected((*claim[:2], most_use, 0), table)
                self.rejected((*claim[:2], most_use, 10 ** 6), table)
            for most_use in (0, 12, bound - 1):
                self.accepted((*claim[:2], most_use, 0), table)

    def test_less_and_more_are_different_uses(self):
        # The same use never loses here: the pair of the starts alone holds for them, but not for LESS below MORE.
        plan = Plan((100,), ((0, 10),), streak=(5, 1, 30))
        states = ((0, 0, 0), (0, 1, 0))
        equal = tuple((state, state, 0) for state in states)
        self.accepted(("never", plan.form, plan.form, None, 0), equal)
        self.rejected(("thrifty", plan.form, None, 0), equal)
        self.rejected(("thrifty", plan.form, None, 0), tuple((s, t, 0) for s in states for t in states))
        self.accepted(("thrifty", plan.form, 4, 0), ((START, START, 0),))
        self.rejected(("thrifty", plan.form, 5, 0), ((START, START, 0),))

    def test_tables_with_pairs_that_no_thrift_history_reaches(self):
        seen = {False: 0, True: 0}
        for plan in [*narrow_plans(107, 12), *small_plans(108, 14), FLEX, PLAIN]:
            for amount in (0, 200):
                table = whole_losses(plan, amount)
                if table is None:
                    continue
                claim = ("thrifty", plan.form, None, amount)
                seen[self.compare(claim, table)] += 1
                # These are the greatest numbers, so none of them may be greater by itself, but all of them together.
                seen[self.compare((*claim[:3], amount + 1), tuple((*row[:2], row[2] + 1) for row in table))] += 1
                for at in range(0, len(table), 7):
                    seen[self.compare((*claim[:3], amount + 1), replaced(table, (at, 2), table[at][2] + 1))] += 1
        self.assertGreater(min(seen.values()), 10)

    def test_a_greater_less_need_not_fit(self):
        # LESS above MORE would lose, which no thrift history has.
        self.accepted(("thrifty", PLAIN.form, None, 0), ((START, START, 0),))
        self.accepted(("thrifty", Plan((0,), ((0, MONEY),)).form, None, 0), ((START, START, 0),))
        self.accepted(("thrifty", PLAIN.form, None, 7), ((START, START, 7),))
        self.rejected(("thrifty", PLAIN.form, None, 7), ((START, START, 8),))


class CheapestTest(CheckerCase):
    def test_other_rows_and_numbers(self):
        small, large = Plan((50,), ((0, 10),), included=2), Plan((100,), ((0, 1),), included=2)
        uses = (0, 20, 20, 0)
        claim, table = certify_cheapest(uses, small, large, change=30)
        self.accepted(claim, table)
        self.assertEqual(claim[4], (0, 1, 1, 0))
        for row in ((0, 1, 1, 1), (0, 0, 0, 0), (0, 1, 1), (0, 1, 1, 0, 0), (0, 1, 1, 2), (0, 1, 1, -1), (0, 1, True, 0), [0]):
            self.rejected((*claim[:4], row), table)
        self.rejected((*claim[:3], 29, claim[4]), table)
        for at in range(4):
            for index in (0, 1):
                number = table[at][index]
                self.rejected(claim, replaced(table, (at, index), number + 1))
                for other in (None, True, "1", (number,), [number]):
                    self.rejected(claim, replaced(table, (at, index), other))
        lower = replaced(table, (0, 1), -10 ** 40)
        self.assertIs(accepts(claim, lower), slow_accepts(claim, lower))
        # Lower numbers hold as well, as long as the last ones do not fall below the cost.
        self.rejected(claim, replaced(table, (3, 0), table[3][0] - 1))
        self.accepted(claim, replaced(table, (3, 1), min(table[3])))

    def test_no_period(self):
        for forms in ((PLAIN.form,), (FLEX.form, PLAIN.form, FULL.form, FLEX.form)):
            self.accepted(("cheapest", forms, (), 5, ()), ())
            self.rejected(("cheapest", (), (), 5, ()), ())
            self.accepted(("cheapest", forms[:1] * 4, (), 5, ()), ())
            self.rejected(("cheapest", forms[:1] * 5, (), 5, ()), ())
            for row, table in (((0,), ()), ((), ((),)), ((), None), ((), []), ([], ()), ((), ((0,),))):
                self.rejected(("cheapest", forms, (), 5, row), table)

    def test_parts_of_other_forms(self):
        claim, table = certify_cheapest((1, 2), PLAIN, PLAIN, change=3)
        word, forms, uses, change, row = claim
        self.accepted(claim, table)
        for plans in ((), forms * 3, list(forms), (PLAIN, PLAIN), forms[0], None, (forms[0], 5)):
            self.rejected((word, plans, uses, change, row), table)
        for other in ((1,), (1, 2, 3), [1, 2], (1, -2), (True, 2), None):
            self.rejected((word, forms, other, change, row), table)
        for other in (-1, True, None, "3", 10 ** 40 - 1):
            wanted = other == 10 ** 40 - 1
            self.assertIs(accepts((word, forms, uses, other, row), table), wanted)
        for other in (table[:1], (*table, table[0]), list(table), (table[0], list(table[1])), (table[0], table[1][:1])):
            self.rejected(claim, other)

    def test_beside_the_slow_checker(self):
        chooser = random.Random(104)
        seen = {False: 0, True: 0}
        for one, other in pairs_of(105, 60, small_plan):
            plans = chooser.choice(((one, other), (one, other, one), (one,), (other, one, other, one)))
            uses = tuple(chooser.choice((0, 2, 7, 13, 30)) for use in range(chooser.randint(1, 5)))
            claim, table = certify_cheapest(uses, *plans, change=chooser.choice((0, 1, 5)))
            self.assertTrue(self.compare(claim, table))
            for path in paths(table)[1:]:
                if len(path) == 2:
                    for by in (1, -1, -9):
                        found = self.compare(claim, replaced(table, path, at_path(table, path) + by))
                        seen[found] += 1
        self.assertGreater(min(seen.values()), 50)

    def test_many_periods(self):
        plans = (FLEX, with_parts(FLEX, fees=(0, 100)), FULL)
        chooser = random.Random(106)
        uses = tuple(chooser.randint(0, 30) for use in range(300))
        claim, table = certify_cheapest(uses, *plans, change=9)
        self.accepted(claim, table)
        self.rejected(claim, replaced(table, (299, claim[4][-1]), table[299][claim[4][-1]] + 1))
        self.rejected((*claim[:3], 8, claim[4]), table)


class KindsTest(CheckerCase):
    def told(self):
        streak = Plan((100,), ((0, 10),), streak=(5, 1, 30))
        found = [
            *certify_lead(Plan(*EVEN[:2]), Plan(*UNEVEN[:2])), certify_alike(FLEX, FLEX), certify_alike(FLEX, PLAIN),
            *certify_lead(PLAIN, Plan((500,), ((0, 10),), most=600)), *certify_lead(with_parts(PLAIN, fees=(121,)), PLAIN),
            *certify_thrift(PLAIN), *certify_thrift(streak), certify_cheapest((0, 20), PLAIN, FLEX, change=1),
            *certify_lead(PLAIN, PLAIN, most_use=7), *certify_thrift(streak, most_use=4),
        ]
        self.assertEqual(len({claim[0] for claim, certificate in found}), 10)
        return found

    def test_values_of_every_kind_at_every_place(self):
        for both in self.told():
            self.accepted(*both)
            for path in paths(both)[1:]:
                kept = at_path(both, path)
                for value in SAMPLES:
                    if type(value) is type(kept) and value == kept:
                        continue
                    changed = replaced(both, path, value)
                    if type(value) in (int, tuple) or value is None:
                        self.compare(*changed)
                    else:
                        self.rejected(*changed)

    def test_truths_are_no_integers_and_lists_no_tuples(self):
        for both in self.told():
            for path in paths(both)[1:]:
                value = at_path(both, path)
                if type(value) is int and value in (0, 1):
                    self.rejected(*replaced(both, path, bool(value)))
                if type(value) is tuple:
                    self.rejected(*replaced(both, path, list(value)))

    def test_by_name(self):
        for claim, certificate in self.told():
            self.assertIs(accepts(certificate=certificate, claim=claim), True)
        self.assertRaises(TypeError, accepts)

    def test_other_claims_and_certificates(self):
        for claim in (*SAMPLES, ("lead", EVEN, UNEVEN), ("never",), ((),), (None,), ("",), ("AHEAD", EVEN, UNEVEN, (0,), 20)):
            for certificate in SAMPLES:
                self.rejected(claim, certificate)
        for claim, certificate in self.told():
            self.rejected(claim[1:], certificate)
            self.rejected((*claim, None), certificate)
            self.rejected(claim[:-1], certificate)
            self.rejected(list(claim), certificate)
            self.rejected(certificate, claim)
            for other in SAMPLES:
                if claim[0] not in TABLED and other is not None:
                    self.rejected(claim, other)
                elif other != certificate:
                    self.rejected(claim, other)

    def test_forms_of_no_plan(self):
        for form in (
            PLAIN, list(EVEN), EVEN[:6], (*EVEN, None), ((), *EVEN[1:]), ((1, 2, 3), *EVEN[1:]), ([120], *EVEN[1:]),
            ((True,), *EVEN[1:]), ((-1,), *EVEN[1:]), ((MONEY + 1,), *EVEN[1:]), ((120,), (), *EVEN[2:]),
            ((120,), ((1, 10),), *EVEN[2:]), ((120,), ((0, 10), (0, 5)), *EVEN[2:]), ((120,), ((0, 10), (13, 5)), *EVEN[2:]),
            ((120,), ((0, 10, 1),), *EVEN[2:]), ((120,), ((0, -1),), *EVEN[2:]), ((120,), ((0, MONEY + 1),), *EVEN[2:]),
            ((120,), ((0, 1), (1, 1), (2, 1), (3, 1), (4, 1)), *EVEN[2:]), ((120,), [(0, 10)], *EVEN[2:]),
            ((120,), ([0, 10],), *EVEN[2:]), ((120,), ((False, 10),), *EVEN[2:]), (*EVEN[:2], 13, *EVEN[3:]),
            (*EVEN[:2], -1, *EVEN[3:]), (*EVEN[:2], True, *EVEN[3:]), (*EVEN[:3], 4, *EVEN[4:]), (*EVEN[:3], None, *EVEN[4:]),
            (*EVEN[:4], -1, None, None), (*EVEN[:4], MONEY + 1, None, None), (*EVEN[:4], 5, 4, None),
            (*EVEN[:4], 0, MONEY + 1, None), (*EVEN[:4], 0, True, None), (*EVEN[:6], ()), (*EVEN[:6], (0, 1, 1)),
            (*EVEN[:6], (17, 1, 1)), (*EVEN[:6], (1, 0, 1)), (*EVEN[:6], (1, 3, 1)), (*EVEN[:6], (1, 1, -1)),
            (*EVEN[:6], (1, 1, MONEY + 1)), (*EVEN[:6], [1, 1, 1]), (*EVEN[:6], (1, True, 1)), (*EVEN[:6], (1, 1, 1, 1)),
        ):
            for claim in (("ahead", form, EVEN, (), 0), ("ahead", EVEN, form, (), 0), ("lost", form, (), 0)):
                self.rejected(claim)
            self.rejected(("cheapest", (form,), (), 0, ()), ())
            self.rejected(("cheapest", (EVEN, form), (), 0, ()), ())
            self.rejected(("alike", form, form), ((START, START),))
            self.rejected(("thrifty", form, None, 0), ((START, START, 0),))
        for plan in (*WIDEST, FLEX, FULL, PLAIN, Plan((0, MONEY), ((0, 0), (12, MONEY)), included=12, carry=3, most=0)):
            self.accepted(("lost", plan.form, (), 0))
            self.accepted(("ahead", plan.form, EVEN, (3,), bill(plan, START, 3) - 150))


class AloneTest(unittest.TestCase):
    def test_it_uses_no_other_module_but_the_limits(self):
        path = pathlib.Path(__file__).resolve().parent.parent / "everybill" / "checker.py"
        tree = ast.parse(path.read_text(encoding="utf-8"))
        found = {node.module for node in ast.walk(tree) if isinstance(node, ast.ImportFrom)}
        self.assertEqual(found, {"everybill.limits"})
        self.assertFalse([node for node in ast.walk(tree) if isinstance(node, ast.Import)])


if __name__ == "__main__":
    unittest.main()
