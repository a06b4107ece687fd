import unittest
from random import Random
from unittest import mock

import model
import tables_model
from model import FORK, OTHER_KINDS, Plan
from shutroads import tables
from shutroads.errors import BadMap, BadState, TooLarge
from shutroads.helps import Help, Lost
from shutroads.maps import Map
from shutroads.regrets import Ratio, Surplus
from shutroads.sure import Parted, Sure, sure, sure_length
from shutroads.walks import first_states

START, LOST, BACK = (0, (0, 1), ()), (1, (0, 1), (2,)), (0, (0, 1), (2,))
HEIGHTS = {START: 5, (2, (0, 1, 2), ()): 0, (2, (0, 1), (2,)): 0}
LEVELS = {START: 5, LOST: 4, BACK: 5}
WORSE = FORK._replace(most=2)
# 656 states can come about from the first one, but in the world (0, 3), there is no way.
WIDE = Plan(6, ((0, 1, 9), (0, 4, 2), (0, 5, 4), (1, 4, 9), (2, 4, 8), (2, 5, 8), (3, 4, 4), (4, 5, 5)), (3, 1), 3)
# Of all states from which there surely is a way, no more states can come about than from this one: 485.
WIDEST = Plan(6, ((0, 2, 3), (0, 3, 1), (0, 4, 4), (0, 5, 1), (1, 5, 5), (2, 5, 9), (3, 5, 2), (4, 5, 6)), (1, 0), 3)
WIDEST_STATE = (1, (4,), ())


def drawn(many, seed):
    """Yield drawn maps, each with its first states and some states after some roads."""
    source = Random(seed)
    for _ in range(many):
        plan = tables_model.small_plan(source)
        states = model.first(plan) + [tables_model.walked_state(plan, source) for _ in range(3)]
        yield plan, sorted(set(states))


def found_sures(many, seed):
    for plan, states in drawn(many, seed):
        for state in states:
            found = sure(Map(*plan), state)
            if isinstance(found, Sure):
                yield plan, state, found


class Example(unittest.TestCase):
    def test_the_example_of_the_document(self):
        fork, worse = [Map(3, ((0, 1, 1), (0, 2, 5), (1, 2, 1)), (0, 2), most) for most in (1, 2)]
        start, lost, back = (0, (0, 1), ()), (1, (0, 1), (2,)), (0, (0, 1), (2,))
        heights, levels = {start: 5, (2, (0, 1, 2), ()): 0, (2, (0, 1), (2,)): 0}, {start: 5, lost: 4, back: 5}
        shown = [
            Sure(5, heights, levels).shows(fork, start), Sure(4, heights, levels).shows(fork, start),
            Sure(5, heights, {}).shows(fork, start), Parted((1, 2)).shows(worse, (0, (0,), (1,))),
            Parted((1,)).shows(worse, (0, (0,), (1,))),
        ]
        found = [[sure_length(fork, state) for state in first_states(fork)],
                 [sure_length(worse, state) for state in first_states(worse)], shown, sure(fork, lost).shows(fork, lost)]
        self.assertEqual(found, [[5, 5, 2], [5, 5, None, None], [True, False, False, True, False], True])

    def test_all_is_defined_in_its_file_and_class(self):
        self.assertEqual({found.__module__ for found in (sure, sure_length, Sure, Parted)}, {"shutroads.sure"})
        for found in (Sure, Parted):
            self.assertIn("shows", vars(found))
            self.assertIn("__eq__", vars(found))


class LeastLength(unittest.TestCase):
    def test_against_the_model(self):
        surely = parted = after = 0
        for plan, states in drawn(150, 1):
            chart = Map(*plan)
            for state in states:
                found = sure(chart, state)
                worlds = tables_model.parting_worlds(plan, state)
                if worlds:
                    self.assertIs(type(found), Parted)
                    self.assertIn(found.world, worlds)
                    self.assertIsNone(sure_length(chart, state))
                    parted += 1
                else:
                    self.assertIs(type(found), Sure)
                    length = tables_model.sure_costs(plan, [state])[state]
                    self.assertEqual((found.length, sure_length(chart, state)), (length, length))
                    self.assertTrue(tables_model.sure_is_shown(plan, state, length, found.heights, found.levels))
                    surely += 1
                    after += state[0] != plan.ends[0]
                self.assertIs(found.shows(chart, state), True)
        # Both must really be there, or the comparison says nothing of one.
        self.assertGreater(min(surely, parted, after), 100)

    def test_no_cost_of_the_model_is_endless_where_each_world_leaves_a_way(self):
        for plan, states in drawn(80, 2):
            for state in states:
                endless = tables_model.sure_costs(plan, [state])[state] == float("inf")
                self.assertIs(endless, bool(tables_model.parting_worlds(plan, state)))

    def test_a_state_at_the_goal(self):
        chart = Map(*FORK)
        for state in ((2, (1, 2), ()), (2, (2,), (1,)), (2, (0, 1), (2,))):
            found = sure(chart, state)
            self.assertEqual((found.length, found.shows(chart, state)), (0, True))
            self.assertTrue(Sure(0, {state: 0}, {}).shows(chart, state))
        # Also if no road leads there.
        chart = Map(3, ((0, 1, 1),), (0, 2), 3)
        self.assertEqual(sure_length(chart, (2, (), ())), 0)
        self.assertEqual(sure_length(chart, (2, (), (0,))), 0)

    def test_states_that_cannot_come_about(self):
        source = Random(3)
        for _ in range(40):
            plan = tables_model.small_plan(source, 4, 4)
            states = tables_model.all_states(plan)
            for state in source.sample(states, min(10, len(states))):
                found = sure(Map(*plan), state)
                self.assertIs(isinstance(found, Parted), bool(tables_model.parting_worlds(plan, state)))
                self.assertTrue(found.shows(Map(*plan), state))
                if isinstance(found, Sure):
                    self.assertEqual(found.length, tables_model.sure_costs(plan, [state])[state])

    def test_more_roads_may_be_shut_than_are_unknown(self):
        chart = Map(2, ((0, 1, 4), (0, 1, 5)), (0, 1), 3)
        self.assertEqual([sure_length(chart, state) for state in first_states(chart)], [4, 5, 4, None])
        self.assertEqual(sure(chart, (0, (), (0, 1))), Parted((0, 1)))
        chart = Map(3, ((0, 1, 4), (1, 2, 5)), (0, 2), 3)
        self.assertEqual([sure_length(chart, state) for state in first_states(chart)], [None, None])
        self.assertEqual(sure_length(chart, (0, (0, 1), ())), 9)
        self.assertIs(type(sure(chart, (0, (0,), ()))), Parted)
        self.assertEqual(sure(chart, (0, (0,), (1,))), Parted((1,)))

    def test_by_hand(self):
        # Nothing shut, a way around, and a look around the corner that is worth it.
        self.assertEqual(sure_length(Map(3, ((0, 1, 9),), (0, 1), 0), (0, (0,), ())), 9)
        self.assertEqual(sure_length(Map(*FORK), (1, (0, 1), (2,))), 6)
        corner = Map(3, ((0, 1, 1), (0, 2, 9), (1, 2, 1), (1, 2, 2)), (0, 2), 1)
        self.assertEqual([sure_length(corner, state) for state in first_states(corner)], [3, 9, 2])


class Attributes(unittest.TestCase):
    def test_kinds_of_values(self):
        for plan, state, found in found_sures(20, 4):
            self.assertIs(type(found.length), int)
            for table in (found.heights, found.levels):
                self.assertIs(type(table), dict)
                self.assertTrue(set(table) <= set(tables_model.all_states(plan)))
                self.assertTrue(all(type(value) is int for value in table.values()))
        self.assertIs(type(sure(Map(*WORSE), (0, (), (0, 1))).world), tuple)

    def test_dicts_are_copied(self):
        heights, levels = dict(HEIGHTS), dict(LEVELS)
        found = Sure(5, heights, levels)
        heights[START] = 1
        levels.clear()
        self.assertEqual((found.heights, found.levels), (HEIGHTS, LEVELS))
        self.assertTrue(found.shows(Map(*FORK), START))
        found.heights.clear()
        found.levels[START] = 7
        self.assertEqual((heights[START], levels), (1, {}))
        one = Sure(5, HEIGHTS, HEIGHTS)
        one.heights[START] = 6
        self.assertEqual(one.levels[START], 5)

    def test_parameters_may_be_named(self):
        self.assertEqual(Sure(levels=LEVELS, heights=HEIGHTS, length=5), Sure(5, HEIGHTS, LEVELS))
        self.assertEqual(Parted(world=(1, 2)).world, (1, 2))

    def test_answers_are_new_each_time(self):
        chart = Map(*FORK)
        found = sure(chart, START)
        kept = sure(chart, START)
        found.heights.clear()
        found.levels.clear()
        self.assertEqual(sure(chart, START), kept)
        self.assertTrue(kept.shows(chart, START))

    def test_shows_changes_nothing(self):
        chart = Map(*FORK)
        found = Sure(5, HEIGHTS, LEVELS)
        found.shows(chart, START)
        self.assertEqual((list(found.heights.items()), list(found.levels.items())),
                         (list(HEIGHTS.items()), list(LEVELS.items())))

    def test_changed_attributes_count(self):
        chart = Map(*FORK)
        found = sure(chart, START)
        found.length = 3
        self.assertFalse(found.shows(chart, START))
        self.assertNotEqual(found, sure(chart, START))
        found.length = 5
        self.assertTrue(found.shows(chart, START))
        self.assertEqual(found, sure(chart, START))
        found.heights[START] = 1
        self.assertFalse(found.shows(chart, START))
        self.assertNotEqual(found, sure(chart, START))
        found.heights = HEIGHTS
        self.assertTrue(found.shows(chart, START))
        found.levels = {}
        self.assertFalse(found.shows(chart, START))
        parted = Parted((0, 1))
        self.assertFalse(parted.shows(Map(*WORSE), (0, (0,), (1,))))
        parted.world = (1, 2)
        self.assertTrue(parted.shows(Map(*WORSE), (0, (0,), (1,))))
        self.assertEqual(parted, Parted((1, 2)))


class Equality(unittest.TestCase):
    def test_two_are_equal_if_their_attributes_are(self):
        given = [(5, HEIGHTS, LEVELS), (4, HEIGHTS, LEVELS), (5, {**HEIGHTS, START: 4}, LEVELS), (5, HEIGHTS, {}),
                 (5, {}, LEVELS), (5, LEVELS, HEIGHTS)]
        for left in given:
            for right in given:
                self.assertIs(Sure(*left) == Sure(*right), left == right)
                self.assertIs(Sure(*left) != Sure(*right), left != right)
        for left in ((), (1,), (1, 2)):
            for right in ((), (1,), (1, 2)):
                self.assertIs(Parted(left) == Parted(right), left == right)
                self.assertIs(Parted(left) != Parted(right), left != right)

    def test_the_order_of_dicts_does_not_count(self):
        source = Random(6)
        other = Sure(5, tables_model.in_another_order(HEIGHTS, source), tables_model.in_another_order(LEVELS, source))
        self.assertEqual(other, Sure(5, HEIGHTS, LEVELS))

    def test_objects_of_other_classes_are_not_equal(self):
        some = [Sure(5, HEIGHTS, LEVELS), Parted((1,)), Surplus(5, HEIGHTS, LEVELS), Ratio(5, HEIGHTS, LEVELS),
                Help(5, HEIGHTS, LEVELS), Lost((1,)), Lost([]), Map(*FORK), BadMap(None)]
        for left in some:
            for right in some:
                self.assertIs(left == right, left is right)
                self.assertIs(left != right, left is not right)


class ShowsSure(unittest.TestCase):
    def check(self, plan, state, length, heights, levels):
        shown = Sure(length, heights, levels).shows(Map(*plan), state)
        self.assertIs(shown, tables_model.sure_is_shown(plan, state, length, heights, levels))
        return shown

    def test_in_another_order(self):
        source = Random(7)
        for plan, state, found in found_sures(30, 7):
            turned = [tables_model.in_another_order(table, source) for table in (found.heights, found.levels)]
            self.assertTrue(self.check(plan, state, found.length, *turned))

    def test_another_length(self):
        for plan, state, found in found_sures(60, 8):
            for length in (found.length - 1, found.length + 1, -1, -found.length - 1, 10 ** 30):
                self.assertFalse(self.check(plan, state, length, found.heights, found.levels))

    def test_changed_tables(self):
        source = Random(9)
        results = []
        for plan, state, found in found_sures(25, 9):
            others = tables_model.all_states(plan)
            others = source.sample(others, min(30, len(others)))
            for heights in tables_model.changed_tables(found.heights, others, source):
                results.append(self.check(plan, state, found.length, heights, found.levels))
            for levels in tables_model.changed_tables(found.levels, others, source):
                results.append(self.check(plan, state, found.length, found.heights, levels))
        self.assertGreater(min(results.count(True), results.count(False)), 500)

    def test_too_low_heights_and_too_high_levels_are_never_right(self):
        for plan, state, found in found_sures(25, 10):
            for entry in found.heights:
                lower = {**found.heights, entry: found.heights[entry] - 1}
                self.assertFalse(self.check(plan, state, found.length, lower, found.levels))
                higher = {**found.levels, entry: found.heights[entry] + 1}
                self.assertFalse(self.check(plan, state, found.length, found.heights, higher))

    def test_the_state_itself_must_be_there(self):
        for plan, state, found in found_sures(25, 11):
            heights = {entry: found.heights[entry] for entry in found.heights if entry != state}
            levels = {entry: found.levels[entry] for entry in found.levels if entry != state}
            self.assertFalse(self.check(plan, state, found.length, heights, found.levels))
            self.assertFalse(self.check(plan, state, found.length, {}, found.levels))
            # With the length 0, no level is needed.
            self.assertIs(self.check(plan, state, found.length, found.heights, levels), found.length == 0)
            self.assertIs(self.check(plan, state, found.length, found.heights, {}), found.length == 0)

    def test_heights_below_0_are_wrong(self):
        goal = (2, (0, 1, 2), ())
        self.assertTrue(self.check(FORK, START, 5, HEIGHTS, LEVELS))
        for more in ((2, (1, 2), ()), (2, (2,), (1,))):
            self.assertTrue(self.check(FORK, START, 5, {**HEIGHTS, more: 0}, LEVELS))
            self.assertTrue(self.check(FORK, START, 5, {**HEIGHTS, more: 10 ** 30}, LEVELS))
            self.assertFalse(self.check(FORK, START, 5, {**HEIGHTS, more: -1}, LEVELS))
        self.assertFalse(self.check(FORK, START, 4, {**HEIGHTS, START: 4, goal: -1, (2, (0, 1), (2,)): -1}, LEVELS))
        self.assertFalse(Sure(-1, {goal: -1}, {}).shows(Map(*FORK), goal))
        self.assertTrue(Sure(0, {goal: 0}, {}).shows(Map(*FORK), goal))
        self.assertFalse(Sure(1, {goal: 0}, {goal: 1}).shows(Map(*FORK), goal))
        self.assertFalse(Sure(0, {goal: 0}, {goal: 1}).shows(Map(*FORK), goal))

    def test_levels_of_0_and_below_say_nothing(self):
        for level in (0, -1, -10 ** 30):
            for entry in ((2, (0, 1, 2), ()), (1, (0, 1, 2), ()), (0, (), (0,)), (2, (1, 2), ())):
                if entry != (0, (), (0,)):
                    self.assertTrue(self.check(FORK, START, 5, HEIGHTS, {**LEVELS, entry: level}))
            self.assertFalse(self.check(FORK, START, 5, HEIGHTS, {**LEVELS, START: level}))
            self.assertTrue(self.check(FORK, (2, (1, 2), ()), 0, {(2, (1, 2), ()): 0}, {(2, (1, 2), ()): level}))

    def test_a_result_without_a_level_counts_as_0(self):
        chart = Plan(3, ((0, 1, 3), (1, 2, 2)), (0, 2), 0)
        start, middle, goal = (0, (0,), ()), (1, (0, 1), ()), (2, (0, 1), ())
        heights = {start: 5, middle: 2, goal: 0}
        self.assertTrue(self.check(chart, start, 5, heights, {start: 5, middle: 2}))
        self.assertFalse(self.check(chart, start, 5, heights, {start: 5, middle: 1}))
        self.assertFalse(self.check(chart, start, 5, heights, {start: 5}))
        self.assertTrue(self.check(chart, middle, 2, heights, {middle: 2}))
        self.assertTrue(self.check(chart, middle, 2, heights, {start: 3, middle: 2}))
        self.assertFalse(self.check(chart, middle, 2, heights, {start: 4, goal: 0}))
        # Going back and forth is no way: each height must be over the next one.
        self.assertFalse(self.check(chart, start, 5, {start: 5, middle: 2}, {start: 5, middle: 2}))
        self.assertFalse(self.check(chart, start, 5, {start: 5, (0, (0, 1), ()): 5, middle: 5}, {start: 5, middle: 2}))

    def test_where_there_may_be_no_way(self):
        for plan, states in drawn(60, 12):
            for state in states:
                if tables_model.parting_worlds(plan, state):
                    known = tables_model.all_states(plan)
                    for value in (0, 1, 9, 60):
                        table = dict.fromkeys(known, value)
                        self.assertFalse(self.check(plan, state, value, table, table))
                        self.assertFalse(self.check(plan, state, value, {state: value}, {}))
        self.assertFalse(self.check(WORSE, (0, (), (0, 1)), 5, {(0, (), (0, 1)): 5}, {(0, (), (0, 1)): 5}))

    def test_another_state_or_map(self):
        found = sure(Map(*FORK), START)
        for state in [*model.first(FORK)[1:], LOST, BACK, (2, (1, 2), ())]:
            self.check(FORK, state, found.length, found.heights, found.levels)
        for plan in (FORK._replace(most=2), FORK._replace(ends=(2, 0)), FORK._replace(ends=(0, 1))):
            self.check(plan, START, found.length, found.heights, found.levels)

    def test_states_of_no_other_kind_are_shown(self):
        chart = Map(*FORK)
        self.assertFalse(Sure(5, {**HEIGHTS, (3, (), ()): 9}, LEVELS).shows(chart, START))
        self.assertFalse(Sure(5, HEIGHTS, {**LEVELS, (0, (), (0, 1)): 0}).shows(chart, START))

    def test_booleans_are_no_lengths(self):
        chart = Map(*FORK)
        state = (1, (0, 1, 2), ())
        heights = {state: 1, (2, (0, 1, 2), ()): 0}
        self.assertTrue(Sure(1, heights, {state: 1}).shows(chart, state))
        self.assertFalse(Sure(True, heights, {state: 1}).shows(chart, state))
        self.assertFalse(Sure(1, {**heights, state: True}, {state: 1}).shows(chart, state))
        self.assertFalse(Sure(1, heights, {state: True}).shows(chart, state))


class ShowsParted(unittest.TestCase):
    def check(self, plan, state, world):
        shown = Parted(world).shows(Map(*plan), state)
        self.assertIs(shown, tables_model.parted_is_shown(plan, state, world))
        return shown

    def test_all_tuples_of_roads(self):
        results = []
        for plan, states in drawn(90, 13):
            tuples = model.subsets(range(-1, len(plan.roads) + 1))
            for state in states:
                results.extend(self.check(plan, state, some) for some in tuples)
        self.assertGreater(results.count(True), 100)

    def test_a_world_that_is_none(self):
        state = (0, (0,), (1,))
        self.assertTrue(self.check(WORSE, state, (1, 2)))
        for wrong in ((2, 1), (1, 1), (1, 1, 2), (1, 2, 2), (), (1,), (2,), (0, 1), (0, 1, 2), (-1, 1), (1, -1), (-2, -1),
                      (1, 3), (1, 10 ** 30), (0, 2)):
            self.assertFalse(self.check(WORSE, state, wrong), wrong)

    def test_booleans_are_no_roads(self):
        self.assertFalse(Parted((True, 2)).shows(Map(*WORSE), (0, (0,), (1,))))

    def test_more_roads_than_most(self):
        state = (0, (0,), (1,))
        for most, shown in ((1, False), (2, True), (3, True)):
            self.assertIs(self.check(FORK._replace(most=most), state, (1, 2)), shown)

    def test_where_there_is_always_a_way(self):
        for plan, state, _ in found_sures(30, 14):
            for world in model.world_list(plan):
                self.assertFalse(self.check(plan, state, world))

    def test_at_the_goal(self):
        self.assertFalse(self.check(FORK._replace(most=3), (2, (), (1, 2)), (1, 2)))
        self.assertFalse(self.check(FORK._replace(most=3), (2, (), (1, 2)), (0, 1, 2)))


class Limit(unittest.TestCase):
    def test_parted_comes_ahead_of_the_limit(self):
        chart = Map(*WIDE)
        state = first_states(chart)[0]
        self.assertEqual(len(tables_model.come_about([state], lambda entry: tables_model.road_choices(WIDE, entry))), 656)
        found = sure(chart, state)
        self.assertIs(type(found), Parted)
        self.assertTrue(found.shows(chart, state))
        self.assertIsNone(sure_length(chart, state))

    def test_the_most_states_that_come_about(self):
        chart = Map(*WIDEST)
        found = sure(chart, WIDEST_STATE)
        costs = tables_model.sure_costs(WIDEST, [WIDEST_STATE])
        self.assertEqual(len(costs), 485)
        self.assertEqual((found.length, found.shows(chart, WIDEST_STATE)), (costs[WIDEST_STATE], True))

    def test_a_lower_limit(self):
        # A search through all maps of eight roads found no state over the limit of 600, so it is lowered here.
        self.assertEqual(tables.MOST_ENTRIES, 600)
        chart = Map(*WIDEST)
        with mock.patch.object(tables, "MOST_ENTRIES", 485):
            found = sure(chart, WIDEST_STATE)
        with mock.patch.object(tables, "MOST_ENTRIES", 484):
            for call in (sure, sure_length):
                with self.assertRaises(TooLarge):
                    call(chart, WIDEST_STATE)
            self.assertTrue(found.shows(chart, WIDEST_STATE))
            self.assertIs(type(sure(Map(*WIDE), first_states(Map(*WIDE))[0])), Parted)

    def test_the_greatest_maps(self):
        source = Random(15)
        for _ in range(25):
            triples = set()
            while len(triples) < 8:
                triples.add((*sorted(source.sample(range(6), 2)), source.randint(1, 9)))
            chart = Map(6, tuple(sorted(triples)), tuple(source.sample(range(6), 2)), 3)
            for state in first_states(chart):
                self.assertTrue(sure(chart, state).shows(chart, state))
        chart = Map(6, tuple((0, 1, length) for length in range(2, 10)), (0, 1), 3)
        self.assertEqual(max(sure_length(chart, state) for state in first_states(chart)), 5)


class Errors(unittest.TestCase):
    def calls(self):
        yield sure
        yield sure_length
        yield Sure(5, HEIGHTS, LEVELS).shows
        yield Parted((1,)).shows

    def test_no_map(self):
        for call in self.calls():
            for chart in (*OTHER_KINDS, 3, FORK, ()):
                for state in (START, None, (0, (), ())):
                    with self.assertRaises(BadMap) as caught:
                        call(chart, state)
                    self.assertIsNone(caught.exception.part)

    def test_no_state(self):
        wrong = (*OTHER_KINDS, 0, (), (0, (0, 1)), (0, (0,), ()), (0, (0, 1), [], ()), [0, (0, 1), ()], (3, (0, 1), ()),
                 (0, (1, 0), ()), (0, (0, 1), (0,)), (0, (), (0, 1)), (False, (0, 1), ()), (0, (0, True), ()),
                 (0, (0, 1), (3,)), (START, ()))
        for call in self.calls():
            for state in wrong:
                with self.subTest(state=state), self.assertRaises(BadState):
                    call(Map(*FORK), state)


if __name__ == "__main__":
    unittest.main()
