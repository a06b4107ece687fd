import unittest
from fractions import Fraction
from functools import cache
from math import gcd
from random import Random
from unittest import mock

import model
import tables_model
from model import FORK, OTHER_KINDS, Plan
from shutroads import tables
from shutroads.errors import BadMap, CutOff, TooLarge
from shutroads.helps import Help
from shutroads.maps import Map
from shutroads.regrets import Ratio, Surplus, least_ratio, least_surplus, ratio, surplus
from shutroads.sure import Sure

CALLS = (surplus, least_surplus, ratio, least_ratio)
WORSE = FORK._replace(most=2)
# Two roads beside each other, of which one may be shut: the first states are all that comes about before the goal.
TWINS = Plan(2, ((0, 1, 2), (0, 1, 3)), (0, 1), 1)
OPEN, LONG, SHORT = (0, (0, 1), ()), (0, (1,), (0,)), (0, (0,), (1,))
OPEN_END, LONG_END, SHORT_END = (1, (0, 1), ()), (1, (1,), (0,)), (1, (0,), (1,))
# The ways with the least surplus have greater ratios here, so that the ratio must be found by several steps.
OTHER_WAYS = (
    (Plan(3, ((0, 1, 3), (0, 1, 8), (0, 2, 1), (0, 2, 4), (0, 2, 6), (1, 2, 1), (1, 2, 3)), (0, 1), 1), 1, (4, 3)),
    (Plan(3, ((0, 1, 1), (0, 1, 5), (0, 2, 1), (0, 2, 4), (0, 2, 7), (1, 2, 2), (1, 2, 7)), (0, 1), 2), 2, (7, 5)),
    (Plan(3, ((0, 1, 5), (0, 1, 7), (0, 1, 8), (0, 2, 1), (1, 2, 2), (1, 2, 4)), (1, 0), 2), 4, (5, 3)),
    (Plan(3, ((0, 1, 5), (0, 1, 7), (0, 1, 9), (0, 2, 2), (1, 2, 1)), (0, 1), 3), 4, (5, 3)),
    (Plan(3, ((0, 1, 7), (0, 1, 9), (0, 2, 3), (1, 2, 1)), (0, 1), 2), 5, (7, 4)),
)
# No whole map has exactly 600 states that come about; these have 597, the next lower number, and 601.
ALMOST = Plan(6, ((0, 3, 1), (0, 4, 2), (0, 5, 4), (1, 2, 3), (1, 5, 2), (2, 3, 9), (2, 4, 7), (2, 5, 2)), (2, 0), 2)
OVER = Plan(5, ((0, 1, 4), (0, 3, 1), (1, 3, 7), (1, 4, 3), (2, 3, 3), (2, 3, 6), (2, 3, 9), (2, 4, 4)), (3, 2), 3)
# These are not whole; from their first states, 600 and 601 states come about.
CUT = Plan(6, ((0, 4, 5), (0, 5, 8), (1, 2, 5), (1, 2, 7), (1, 4, 3), (1, 5, 1), (2, 3, 8), (2, 4, 6)), (5, 0), 3)
CUT_OVER = Plan(6, ((0, 2, 4), (0, 3, 5), (1, 4, 6), (1, 5, 4), (2, 3, 6), (2, 5, 1), (3, 4, 7), (4, 5, 1)), (2, 3), 3)


@cache
def all_whole_plans():
    """Return drawn maps that are whole; in most of them, not knowing has a price."""
    source = Random(1)
    found = []
    while len(found) < 100:
        plan = tables_model.small_plan(source)
        if tables_model.is_whole(plan) and (source.random() < 0.01 or tables_model.surplus_of(plan) > 0):
            found.append(plan)
    return found


def whole_plans(many, seed):
    return Random(seed).sample(all_whole_plans(), many)


def some_of(table, source):
    return source.sample(sorted(table), min(12, len(table)))


def how_many(plan):
    return len(tables_model.come_about(model.first(plan), lambda state: tables_model.road_choices(plan, state)))


def as_fractions(table):
    return {state: Fraction(*table[state]) for state in table}


def as_pairs(table):
    return {state: (Fraction(value).numerator, Fraction(value).denominator) for state, value in table.items()}


class Example(unittest.TestCase):
    def test_the_example_of_the_document(self):
        fork, open_fork = [Map(3, ((0, 1, 1), (0, 2, 5), (1, 2, 1)), (0, 2), most) for most in (1, 0)]
        found = surplus(fork)
        got = [least_surplus(fork), least_ratio(fork), found.shows(fork),
               Surplus(1, found.heights, found.levels).shows(fork), ratio(fork).shows(fork), least_surplus(open_fork),
               least_ratio(open_fork)]
        self.assertEqual(got, [2, (7, 5), True, False, True, 0, (1, 1)])

    def test_all_is_defined_in_its_file_and_class(self):
        self.assertEqual({found.__module__ for found in (*CALLS, Surplus, Ratio)}, {"shutroads.regrets"})
        for found in (Surplus, Ratio):
            self.assertIn("shows", vars(found))
            self.assertIn("__eq__", vars(found))


class Least(unittest.TestCase):
    def test_against_the_model(self):
        amounts = []
        for plan in all_whole_plans():
            chart = Map(*plan)
            found = surplus(chart)
            self.assertIs(type(found), Surplus)
            self.assertEqual((found.amount, least_surplus(chart)), (tables_model.surplus_of(plan),) * 2)
            self.assertIs(found.shows(chart), True)
            self.assertTrue(tables_model.regret_is_shown(plan, found.amount, 1, found.heights, found.levels))
            found = ratio(chart)
            self.assertIs(type(found), Ratio)
            self.assertEqual((found.ratio, least_ratio(chart)), (tables_model.ratio_of(plan),) * 2)
            self.assertIs(found.shows(chart), True)
            heights, levels = as_fractions(found.heights), as_fractions(found.levels)
            self.assertTrue(tables_model.regret_is_shown(plan, 0, Fraction(*found.ratio), heights, levels))
            amounts.append(least_surplus(chart))
        self.assertGreater(len([amount for amount in amounts if amount > 0]), 50)
        self.assertIn(0, amounts)

    def test_ratios_that_take_another_way_than_the_surplus(self):
        for plan, amount, least in OTHER_WAYS:
            chart = Map(*plan)
            self.assertEqual((least_surplus(chart), least_ratio(chart)), (amount, least))
            self.assertEqual((tables_model.surplus_of(plan), tables_model.ratio_of(plan)), (amount, least))
            self.assertTrue(surplus(chart).shows(chart))
            self.assertTrue(ratio(chart).shows(chart))

    def test_two_places_on_the_way(self):
        source = Random(2)
        for _ in range(40):
            pairs = ((0, 1), (0, 2), (0, 3), (1, 2), (1, 3), (2, 3))
            plan = Plan(4, tuple((*pair, source.randint(1, 9)) for pair in pairs), (0, 3), source.randint(1, 2))
            chart = Map(*plan)
            self.assertEqual(least_surplus(chart), tables_model.surplus_of(plan))
            self.assertEqual(least_ratio(chart), tables_model.ratio_of(plan))
            self.assertTrue(ratio(chart).shows(chart))

    def test_every_ratio_is_without_a_common_divisor(self):
        for plan in whole_plans(60, 3):
            found = ratio(Map(*plan))
            for above, below in (found.ratio, *found.heights.values(), *found.levels.values()):
                self.assertIs(type(above), int)
                self.assertIs(type(below), int)
                self.assertGreaterEqual(below, 1)
                self.assertEqual(gcd(above, below), 1)
            self.assertGreaterEqual(Fraction(*found.ratio), 1)

    def test_by_hand(self):
        for most, amount, least in ((0, 0, (1, 1)), (1, 0, (1, 1))):
            chart = Map(*TWINS._replace(most=most))
            self.assertEqual((least_surplus(chart), least_ratio(chart)), (amount, least))
        # At 1 it is seen whether the short way is open: if not, 3 + 3 + 8 are walked instead of 8.
        chart = Map(3, ((0, 1, 3), (0, 2, 8), (1, 2, 2)), (0, 2), 1)
        self.assertEqual((least_surplus(chart), least_ratio(chart)), (3, (8, 5)))
        chart = Map(3, ((0, 1, 3), (0, 2, 8), (1, 2, 1)), (0, 2), 1)
        self.assertEqual((least_surplus(chart), least_ratio(chart)), (4, (7, 4)))

    def test_kinds_of_values(self):
        chart = Map(*FORK)
        found = surplus(chart)
        self.assertIs(type(found.amount), int)
        for table in (found.heights, found.levels):
            self.assertIs(type(table), dict)
            self.assertEqual({type(value) for value in table.values()}, {int})
        found = ratio(chart)
        for value in (found.ratio, *found.heights.values(), *found.levels.values()):
            self.assertIs(type(value), tuple)
        self.assertTrue(any(value[0] < 0 for value in found.heights.values()))


class Attributes(unittest.TestCase):
    def test_dicts_are_copied(self):
        for kind, value in ((Surplus, 2), (Ratio, (2, 3))):
            heights, levels = {OPEN: value}, {LONG: value}
            found = kind(value, heights, levels)
            heights.clear()
            levels[OPEN] = value
            self.assertEqual((found.heights, found.levels), ({OPEN: value}, {LONG: value}))
            found.heights[SHORT] = value
            self.assertEqual((heights, found.levels), ({}, {LONG: value}))
            one = kind(value, levels, levels)
            one.heights.clear()
            self.assertEqual(one.levels, levels)

    def test_parameters_may_be_named(self):
        self.assertEqual(Surplus(levels={}, heights={OPEN: 1}, amount=2), Surplus(2, {OPEN: 1}, {}))
        self.assertEqual(Ratio(levels={}, heights={OPEN: (1, 1)}, ratio=(2, 1)), Ratio((2, 1), {OPEN: (1, 1)}, {}))

    def test_answers_are_new_each_time(self):
        chart = Map(*FORK)
        for call in (surplus, ratio):
            found, kept = call(chart), call(chart)
            self.assertIsNot(found.heights, found.levels)
            found.heights.clear()
            self.assertTrue(found.levels)
            found.levels.clear()
            self.assertEqual(call(chart), kept)

    def test_changed_attributes_count(self):
        chart = Map(*FORK)
        found = surplus(chart)
        found.amount = 3
        self.assertFalse(found.shows(chart))
        self.assertNotEqual(found, surplus(chart))
        found.amount = 2
        self.assertTrue(found.shows(chart))
        found.heights[(0, (0, 1), ())] = -9
        self.assertFalse(found.shows(chart))
        self.assertNotEqual(found, surplus(chart))
        found = ratio(chart)
        found.ratio = (3, 2)
        self.assertFalse(found.shows(chart))
        self.assertNotEqual(found, ratio(chart))
        found.ratio = (7, 5)
        self.assertEqual(found, ratio(chart))
        found.levels = {}
        self.assertFalse(found.shows(chart))


class Equality(unittest.TestCase):
    def test_two_are_equal_if_their_attributes_are(self):
        for kind, one, two in ((Surplus, 1, 2), (Ratio, (1, 1), (2, 1))):
            given = [(one, {OPEN: one}, {LONG: one}), (two, {OPEN: one}, {LONG: one}), (one, {OPEN: two}, {LONG: one}),
                     (one, {OPEN: one}, {LONG: two}), (one, {LONG: one}, {OPEN: one}), (one, {}, {})]
            for left in given:
                for right in given:
                    self.assertIs(kind(*left) == kind(*right), left == right)
                    self.assertIs(kind(*left) != kind(*right), left != right)
            self.assertEqual(kind(one, {OPEN: one, LONG: two}, {}), kind(one, {LONG: two, OPEN: one}, {}))

    def test_objects_of_other_classes_are_not_equal(self):
        some = [Surplus(1, {}, {}), Ratio(1, {}, {}), Sure(1, {}, {}), Help(1, {}, {}), Map(*FORK), CutOff("no")]
        for left in some:
            for right in some:
                self.assertIs(left == right, left is right)
                self.assertIs(left != right, left is not right)


class ShowsSurplus(unittest.TestCase):
    def check(self, plan, amount, heights, levels):
        shown = Surplus(amount, heights, levels).shows(Map(*plan))
        self.assertIs(shown, tables_model.regret_is_shown(plan, amount, 1, heights, levels))
        return shown

    def test_in_another_order(self):
        source = Random(4)
        for plan in whole_plans(40, 4):
            found = surplus(Map(*plan))
            turned = [tables_model.in_another_order(table, source) for table in (found.heights, found.levels)]
            self.assertTrue(self.check(plan, found.amount, *turned))

    def test_another_amount(self):
        for plan in whole_plans(40, 5):
            found = surplus(Map(*plan))
            for amount in (found.amount - 1, found.amount + 1, -1, -found.amount - 1, 10 ** 30, -10 ** 30):
                self.assertFalse(self.check(plan, amount, found.heights, found.levels))

    def test_changed_tables(self):
        source = Random(6)
        results = []
        for plan in whole_plans(20, 6):
            found = surplus(Map(*plan))
            others = tables_model.all_states(plan)
            others = source.sample(others, min(30, len(others)))
            for heights in tables_model.changed_tables(found.heights, others, source, 3):
                results.append(self.check(plan, found.amount, heights, found.levels))
            for levels in tables_model.changed_tables(found.levels, others, source, 3):
                results.append(self.check(plan, found.amount, found.heights, levels))
        self.assertGreater(min(results.count(True), results.count(False)), 300)

    def test_too_low_heights_and_too_high_levels_are_never_right(self):
        source = Random(7)
        for plan in whole_plans(30, 7):
            found = surplus(Map(*plan))
            for state in some_of(found.heights, source):
                lower = {**found.heights, state: found.heights[state] - 1}
                self.assertFalse(self.check(plan, found.amount, lower, found.levels))
                higher = {**found.levels, state: found.heights[state] + 1}
                self.assertFalse(self.check(plan, found.amount, found.heights, higher))

    def test_all_first_states_have_heights_and_one_has_a_level(self):
        heights = {OPEN: 0, LONG: 0, SHORT: 0, OPEN_END: -2, LONG_END: -3, SHORT_END: -2}
        self.assertTrue(self.check(TWINS, 0, heights, {LONG: 0, LONG_END: -3}))
        self.assertTrue(self.check(TWINS, 0, heights, {OPEN: 0, OPEN_END: -2}))
        self.assertFalse(self.check(TWINS, 0, heights, {LONG_END: -3}))
        self.assertFalse(self.check(TWINS, 0, heights, {}))
        # Results that are not there do not count, neither for heights nor for levels.
        self.assertFalse(self.check(TWINS, 0, heights, {LONG: 0}))
        for state in heights:
            fewer = {known: heights[known] for known in heights if known != state}
            self.assertFalse(self.check(TWINS, 0, fewer, heights))
        self.assertFalse(self.check(TWINS, 0, {**heights, LONG: 1}, heights))

    def test_numbers_below_0(self):
        heights = {OPEN: 0, LONG: 0, SHORT: 0, OPEN_END: -2, LONG_END: -3, SHORT_END: -2}
        self.assertTrue(self.check(TWINS, 0, {**heights, OPEN: -0, SHORT: 0}, {**heights, OPEN: -5, OPEN_END: -7}))
        self.assertFalse(self.check(TWINS, 0, {**heights, OPEN_END: -3}, heights))
        self.assertTrue(self.check(TWINS, 0, {**heights, OPEN_END: -2}, {**heights, LONG_END: -3}))
        self.assertFalse(self.check(TWINS, 0, heights, {**heights, LONG_END: -2}))
        self.assertFalse(self.check(TWINS, -1, heights, heights))
        self.assertFalse(self.check(TWINS, -1, {state: heights[state] - 1 for state in heights}, heights))

    def test_states_of_no_other_kind_are_shown(self):
        found = surplus(Map(*FORK))
        self.assertFalse(Surplus(2, {**found.heights, (3, (), ()): 9}, found.levels).shows(Map(*FORK)))
        self.assertFalse(Surplus(2, found.heights, {**found.levels, (0, (), (0, 1)): 0}).shows(Map(*FORK)))

    def test_booleans_are_no_amounts(self):
        chart = Map(*OTHER_WAYS[0][0])
        found = surplus(chart)
        self.assertTrue(Surplus(1, found.heights, found.levels).shows(chart))
        self.assertFalse(Surplus(True, found.heights, found.levels).shows(chart))


class ShowsRatio(unittest.TestCase):
    def check(self, plan, least, heights, levels):
        shown = Ratio(least, heights, levels).shows(Map(*plan))
        wanted = tables_model.regret_is_shown(plan, 0, Fraction(*least), as_fractions(heights), as_fractions(levels))
        self.assertIs(shown, wanted)
        return shown

    def test_in_another_order(self):
        source = Random(8)
        for plan in whole_plans(40, 8):
            found = ratio(Map(*plan))
            turned = [tables_model.in_another_order(table, source) for table in (found.heights, found.levels)]
            self.assertTrue(self.check(plan, found.ratio, *turned))

    def test_another_ratio(self):
        for plan in whole_plans(40, 9):
            found = ratio(Map(*plan))
            least = Fraction(*found.ratio)
            for other in (least - 1, least + 1, least + Fraction(1, 1000), least - Fraction(1, 1000), 1 / least, -least,
                          Fraction(0), Fraction(-1), Fraction(10 ** 30)):
                if other != least:
                    other = (other.numerator, other.denominator)
                    self.assertFalse(self.check(plan, other, found.heights, found.levels))

    def test_tables_of_another_ratio_show_nothing(self):
        for plan in whole_plans(25, 10):
            least = Fraction(*least_ratio(Map(*plan)))
            for other in (least + Fraction(1, 7), least - Fraction(1, 7)):
                costs = as_pairs(tables_model.regrets(plan, other)[0])
                self.assertFalse(self.check(plan, (other.numerator, other.denominator), costs, costs))

    def test_changed_tables(self):
        source = Random(11)
        results = []
        for plan in whole_plans(20, 11):
            found = ratio(Map(*plan))
            others = tables_model.all_states(plan)
            others = source.sample(others, min(30, len(others)))
            for heights in tables_model.changed_tables(as_fractions(found.heights), others, source, 3):
                results.append(self.check(plan, found.ratio, as_pairs(heights), found.levels))
            for levels in tables_model.changed_tables(as_fractions(found.levels), others, source, 3):
                results.append(self.check(plan, found.ratio, found.heights, as_pairs(levels)))
        self.assertGreater(min(results.count(True), results.count(False)), 300)

    def test_small_changes(self):
        source = Random(12)
        for plan in whole_plans(20, 12):
            found = ratio(Map(*plan))
            for state in some_of(found.heights, source):
                here = Fraction(*found.heights[state])
                for change in (Fraction(1, 10 ** 9), Fraction(1, 3)):
                    lower = {**found.heights, **as_pairs({state: here - change})}
                    self.assertFalse(self.check(plan, found.ratio, lower, found.levels))
                    higher = {**found.levels, **as_pairs({state: here + change})}
                    self.assertFalse(self.check(plan, found.ratio, found.heights, higher))

    def test_large_numbers(self):
        found = ratio(Map(*FORK))
        large = (10 ** 3999 + 1, 10 ** 3999)
        for state in found.heights:
            self.check(FORK, found.ratio, {**found.heights, state: large}, found.levels)
        self.assertFalse(self.check(FORK, large, found.heights, found.levels))

    def test_pairs_with_a_common_divisor_are_no_fractions(self):
        chart = Map(*FORK)
        found = ratio(chart)
        self.assertTrue(found.shows(chart))
        self.assertFalse(Ratio((14, 10), found.heights, found.levels).shows(chart))
        for state in found.heights:
            above, below = found.heights[state]
            self.assertFalse(Ratio((7, 5), {**found.heights, state: (2 * above, 2 * below)}, found.levels).shows(chart))


class Limit(unittest.TestCase):
    def test_the_nearest_numbers_of_states(self):
        chart = Map(*ALMOST)
        self.assertEqual((how_many(ALMOST), how_many(OVER)), (597, 601))
        found = surplus(chart)
        self.assertTrue(found.shows(chart))
        self.assertEqual(found.amount, tables_model.surplus_of(ALMOST))
        found = ratio(chart)
        self.assertTrue(found.shows(chart))
        self.assertEqual(found.ratio, tables_model.ratio_of(ALMOST))
        for call in CALLS:
            with self.assertRaises(TooLarge):
                call(Map(*OVER))

    def test_exactly_the_limit(self):
        for plan, limit in ((ALMOST, 597), (OVER, 601)):
            chart = Map(*plan)
            for call in CALLS:
                with mock.patch.object(tables, "MOST_ENTRIES", limit):
                    call(chart)
                with mock.patch.object(tables, "MOST_ENTRIES", limit - 1), self.assertRaises(TooLarge):
                    call(chart)

    def test_shows_has_no_limit(self):
        chart = Map(*OVER)
        with mock.patch.object(tables, "MOST_ENTRIES", 601):
            found = [surplus(chart), ratio(chart)]
        for each in found:
            self.assertEqual(len(each.heights), 601)
            self.assertTrue(each.shows(chart))
            each.levels.clear()
            self.assertFalse(each.shows(chart))

    def test_cut_off_comes_ahead_of_the_limit(self):
        self.assertEqual((how_many(CUT), how_many(CUT_OVER)), (600, 601))
        for plan in (CUT, CUT_OVER):
            for call in (*CALLS, Surplus(0, {}, {}).shows, Ratio((1, 1), {}, {}).shows):
                with self.assertRaises(CutOff):
                    call(Map(*plan))

    def test_the_greatest_maps(self):
        source = Random(13)
        for _ in range(40):
            # Four roads beside each other make the map whole, at least if the others do not take their place.
            triples = {(0, 1, length) for length in source.sample(range(1, 10), source.randint(3, 4))}
            while len(triples) < 8:
                triples.add((*sorted(source.sample(range(6), 2)), source.randint(1, 9)))
            plan = Plan(6, tuple(sorted(triples)), (0, 1), 3)
            chart = Map(*plan)
            if not tables_model.is_whole(plan):
                wanted = CutOff
            elif how_many(plan) > 600:
                wanted = TooLarge
            else:
                for found in (surplus(chart), ratio(chart)):
                    self.assertTrue(found.shows(chart))
                continue
            for call in CALLS:
                with self.assertRaises(wanted):
                    call(chart)


class Errors(unittest.TestCase):
    def calls(self):
        return (*CALLS, Surplus(0, {}, {}).shows, Ratio((1, 1), {}, {}).shows)

    def test_no_map(self):
        for call in self.calls():
            for chart in (*OTHER_KINDS, 3, FORK, ()):
                with self.subTest(chart=chart), self.assertRaises(BadMap) as caught:
                    call(chart)
                self.assertIsNone(caught.exception.part)

    def test_a_map_that_is_not_whole(self):
        source = Random(14)
        cut = 0
        for _ in range(60):
            plan = tables_model.small_plan(source)
            if not tables_model.is_whole(plan):
                cut += 1
                for call in self.calls():
                    with self.assertRaises(CutOff):
                        call(Map(*plan))
        self.assertGreater(cut, 20)
        for plan in (WORSE, Plan(2, ((0, 1, 1),), (0, 1), 1), Plan(3, ((0, 1, 1),), (0, 2), 0)):
            for call in self.calls():
                with self.assertRaises(CutOff):
                    call(Map(*plan))


if __name__ == "__main__":
    unittest.main()
