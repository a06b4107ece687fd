import unittest
from itertools import product
from random import Random
from unittest import mock

import model
import tables_model
from model import FORK, OTHER_KINDS, Plan
from shutroads import tables
from shutroads.errors import BadMap, BadPosition, BadState, BadTools, TooLarge
from shutroads.helps import Help, Lost, help_cost, help_for, moves, tool_costs
from shutroads.maps import Map
from shutroads.regrets import Ratio, Surplus
from shutroads.sure import Parted, Sure, sure_length
from shutroads.walks import first_states

WORSE = FORK._replace(most=2)
START, SHUT = ((0, (0, 1), ()), ()), ((0, (0,), (1,)), ())
BLOCKED, END = ((0, (0,), (1, 2)), ()), ((1, (0,), (1, 2)), ())
GOAL = ((2, (0, 1, 2), ()), ())
KINDS = ((None, None), (2, None), (None, 3), (1, 2))

# From these positions, exactly 600 other ones and themselves can come about, with the cost, or None.
LIMIT = (
    (Plan(5, ((0, 1, 3), (0, 1, 5), (0, 3, 2), (0, 3, 6), (0, 4, 2), (1, 2, 6)), (2, 4), 3), ((2, (5,), ()), ()),
     (None, 2), 15),
    (Plan(5, ((0, 2, 8), (0, 4, 7), (1, 2, 4), (1, 2, 5), (3, 4, 8), (3, 4, 9)), (0, 3), 3), ((0, (0, 1), ()), ()),
     (3, 4), 19),
    (Plan(4, ((0, 1, 5), (0, 1, 8), (1, 2, 1), (1, 2, 4), (1, 2, 6), (1, 2, 7), (1, 2, 9), (1, 3, 6)), (3, 2), 1),
     ((3, (7,), ()), ()), (3, None), 10),
    (Plan(5, ((0, 1, 1), (0, 4, 3), (0, 4, 4), (0, 4, 5), (1, 3, 4), (1, 4, 1), (2, 3, 2)), (3, 4), 3),
     ((3, (4, 6), ()), ()), (3, None), None),
    (Plan(6, ((0, 4, 4), (2, 4, 2), (2, 4, 6), (3, 5, 6), (3, 5, 8), (4, 5, 1), (4, 5, 5)), (3, 1), 3),
     ((3, (3, 4), ()), ()), (None, 3), None),
)
# From these, 601 positions can come about; without the limit, there is a cost for the first two, none for the others.
OVER = (
    (Plan(5, ((0, 2, 4), (0, 3, 9), (1, 2, 9), (2, 3, 1), (2, 4, 1), (3, 4, 1)), (4, 1), 3), ((4, (4,), (5,)), ()), (3, 4)),
    (Plan(5, ((0, 1, 1), (0, 1, 6), (0, 1, 8), (0, 2, 2), (1, 3, 1), (1, 3, 2), (1, 4, 7), (2, 4, 8)), (4, 3), 2),
     ((4, (6, 7), ()), ()), (None, 3)),
    (Plan(6, ((0, 1, 8), (0, 4, 1), (1, 4, 3), (1, 5, 2), (2, 4, 7), (4, 5, 4)), (0, 3), 3), ((0, (1,), (0,)), ()), (3, 4)),
    (Plan(6, ((0, 2, 2), (0, 3, 4), (0, 4, 9), (1, 2, 5), (1, 3, 6), (1, 4, 8), (2, 3, 1), (2, 4, 4)), (2, 5), 3),
     ((2, (0, 7), (3, 6)), ()), (None, 3)),
)
# 656 states can come about from the first one.
WIDE = Plan(6, ((0, 1, 9), (0, 4, 2), (0, 5, 4), (1, 4, 9), (2, 4, 8), (2, 5, 8), (3, 4, 4), (4, 5, 5)), (3, 1), 3)


def some_tools(source):
    call, mending = source.randint(1, 9), source.randint(1, 9)
    return [(None, None), (call, None), (None, mending), (call, mending)]


def some_position(plan, source):
    """Return a position after some roads, perhaps with mended roads, perhaps at the goal."""
    state = tables_model.walked_state(plan, source)
    return state, source.choice(model.subsets(state[2]))


def drawn(many, seed, most_roads=5):
    """Yield drawn maps with a position and tools, each of the four kinds."""
    source = Random(seed)
    for _ in range(many):
        plan = tables_model.small_plan(source, 5, most_roads)
        position = some_position(plan, source)
        for tools in some_tools(source):
            yield plan, position, tools


def found_answers(many, seed, kind):
    """Yield drawn maps, positions and tools with their answers, of one class, where there is no TooLarge."""
    for plan, position, tools in drawn(many, seed, 4):
        costs = tables_model.help_costs(plan, position, tools)
        if costs is not None:
            found = help_for(Map(*plan), position, tools)
            if isinstance(found, kind):
                yield plan, position, tools, found


def all_positions(plan):
    return [(state, mended) for state in tables_model.all_states(plan) for mended in model.subsets(state[2])]


class Example(unittest.TestCase):
    def test_the_example_of_the_document(self):
        fork, worse = [Map(3, ((0, 1, 1), (0, 2, 5), (1, 2, 1)), (0, 2), most) for most in (1, 2)]
        start, shut = ((0, (0, 1), ()), ()), ((0, (0,), (1,)), ())
        end = ((1, (0,), (1, 2)), ())
        shown = [Lost([shut, end, ((0, (0,), (1, 2)), ())]).shows(worse, shut, (None, None)),
                 Lost([shut]).shows(worse, shut, (None, None)), help_for(worse, shut, (1, 2)).shows(worse, shut, (1, 2))]
        found = [moves(fork, start, (1, 2)), moves(worse, shut, (None, 2)), tool_costs(fork, start[0], (1, 2)),
                 tool_costs(worse, shut[0], (1, 2)), shown, help_cost(worse, shut, (None, 9))]
        self.assertEqual(found, [[("road", 0), ("road", 1), ("call", 2)], [("road", 0), ("mend", 1)], [5, 5, 4, 4],
                                 [None, None, 4, 4], [True, False, True], 11])

    def test_all_is_defined_in_its_file_and_class(self):
        some = (moves, help_for, help_cost, tool_costs, Help, Lost)
        self.assertEqual({found.__module__ for found in some}, {"shutroads.helps"})
        for found in (Help, Lost):
            self.assertIn("shows", vars(found))
            self.assertIn("__eq__", vars(found))
        self.assertIn("__iter__", vars(Lost))


class Moves(unittest.TestCase):
    def test_against_the_model(self):
        mended = goal = 0
        for plan, position, tools in drawn(300, 1):
            found = moves(Map(*plan), position, tools)
            self.assertEqual(found, [move for move, _, _ in tables_model.move_list(plan, position, tools)])
            mended += bool(position[1])
            goal += position[0][0] == plan.ends[1]
        self.assertGreater(min(mended, goal), 100)

    def test_all_positions_of_a_small_map(self):
        for plan in (FORK, WORSE, Plan(4, ((0, 1, 2), (0, 1, 3), (1, 2, 1)), (0, 2), 2)):
            for position in all_positions(plan):
                for tools in KINDS:
                    found = moves(Map(*plan), position, tools)
                    self.assertEqual(found, [move for move, _, _ in tables_model.move_list(plan, position, tools)])

    def test_order(self):
        chart = Map(4, ((0, 1, 1), (0, 1, 2), (0, 1, 3), (1, 2, 1), (2, 3, 1)), (0, 3), 2)
        position = ((0, (2,), (0, 1)), (1,))
        self.assertEqual(moves(chart, position, (5, 5)),
                         [("road", 1), ("road", 2), ("call", 3), ("call", 4), ("mend", 0)])
        self.assertEqual(moves(chart, position, (None, 5)), [("road", 1), ("road", 2), ("mend", 0)])
        self.assertEqual(moves(chart, position, (5, None)), [("road", 1), ("road", 2), ("call", 3), ("call", 4)])
        self.assertEqual(moves(chart, position, (None, None)), [("road", 1), ("road", 2)])

    def test_no_moves(self):
        for tools in KINDS:
            self.assertEqual(moves(Map(*FORK), GOAL, tools), [])
            self.assertEqual(moves(Map(*FORK), ((2, (2,), (1,)), ()), tools), [])
        alone = Map(3, ((1, 2, 1),), (0, 2), 1)
        self.assertEqual(moves(alone, ((0, (0,), ()), ()), (1, 1)), [])
        self.assertEqual(moves(alone, ((0, (), (0,)), ()), (1, 1)), [])
        self.assertEqual(moves(alone, ((0, (), ()), ()), (1, 1)), [("call", 0)])

    def test_only_roads_at_the_place_are_mended_and_taken(self):
        chart = Map(3, ((0, 1, 1), (1, 2, 1)), (0, 2), 2)
        self.assertEqual(moves(chart, ((0, (0,), (1,)), ()), (1, 1)), [("road", 0)])
        self.assertEqual(moves(chart, ((0, (0,), (1,)), (1,)), (1, 1)), [("road", 0)])
        self.assertEqual(moves(chart, ((1, (0,), (1,)), (1,)), (1, 1)), [("road", 0), ("road", 1)])

    def test_lists_are_new_each_time(self):
        found = moves(Map(*FORK), START, (1, 2))
        self.assertIs(type(found), list)
        self.assertEqual([type(move) for move in found], [tuple] * 3)
        found.clear()
        self.assertEqual(len(moves(Map(*FORK), START, (1, 2))), 3)

    def test_there_is_no_limit(self):
        for plan, position, tools in OVER:
            self.assertTrue(moves(Map(*plan), position, tools))


class Costs(unittest.TestCase):
    def test_against_the_model(self):
        kinds = {}
        for plan, position, tools in drawn(160, 2):
            chart = Map(*plan)
            costs = tables_model.help_costs(plan, position, tools)
            if costs is None:
                for call in (help_for, help_cost):
                    with self.assertRaises(TooLarge):
                        call(chart, position, tools)
                continue
            found = help_for(chart, position, tools)
            if costs[position] == float("inf"):
                self.assertIs(type(found), Lost)
                self.assertIsNone(help_cost(chart, position, tools))
                self.assertTrue(tables_model.lost_is_shown(plan, position, tools, found.spots))
            else:
                self.assertIs(type(found), Help)
                self.assertEqual((found.cost, help_cost(chart, position, tools)), (costs[position],) * 2)
                self.assertTrue(tables_model.help_is_shown(plan, position, tools, found.cost, found.heights, found.levels))
            self.assertIs(found.shows(chart, position, tools), True)
            kind = (type(found), tools[0] is None, tools[1] is None, bool(position[1]))
            kinds[kind] = kinds.get(kind, 0) + 1
        self.assertGreater(min(kinds.get(kind, 0) for kind in product((Help, Lost), *[(False, True)] * 3)), 3)

    def test_whatever_is_done_where_there_is_a_cost_there_still_is_one(self):
        for plan, position, tools, found in found_answers(60, 3, Help):
            self.assertNotIn(float("inf"), tables_model.help_costs(plan, position, tools).values())

    def test_tool_costs_against_the_model(self):
        source = Random(4)
        large = 0
        for at in range(100):
            plan = tables_model.small_plan(source, 5, 5) if at < 50 else tables_model.small_plan(source, 6, 8, 3)
            chart = Map(*plan)
            state = tables_model.walked_state(plan, source) if at < 50 else model.first(plan)[0]
            for tools in some_tools(source):
                each = [(None, None), (tools[0], None), (None, tools[1]), tools]
                costs = [tables_model.help_costs(plan, (state, ()), some) for some in each]
                if None in costs:
                    large += 1
                    with self.assertRaises(TooLarge):
                        tool_costs(chart, state, tools)
                    continue
                wanted = [cost[state, ()] for cost in costs]
                wanted = [None if cost == float("inf") else cost for cost in wanted]
                self.assertEqual(tool_costs(chart, state, tools), wanted)
        self.assertGreater(large, 5)

    def test_without_tools_and_mended_roads_it_is_the_sure_length(self):
        source = Random(5)
        for _ in range(60):
            plan = tables_model.small_plan(source)
            state = tables_model.walked_state(plan, source)
            self.assertEqual(help_cost(Map(*plan), (state, ()), (None, None)), sure_length(Map(*plan), state))

    def test_at_the_goal(self):
        for tools in KINDS:
            for position in (GOAL, ((2, (2,), (1,)), ()), ((2, (2,), (1,)), (1,))):
                found = help_for(Map(*FORK), position, tools)
                self.assertEqual((found.cost, found.shows(Map(*FORK), position, tools)), (0, True))
                self.assertTrue(Help(0, {position: 0}, {}).shows(Map(*FORK), position, tools))
            self.assertEqual(tool_costs(Map(*FORK), GOAL[0], tools), [0] * 4)

    def test_mended_roads(self):
        chart = Map(2, ((0, 1, 4),), (0, 1), 1)
        shut = (0, (), (0,))
        self.assertEqual(help_cost(chart, (shut, (0,)), (None, None)), 4)
        self.assertIsNone(help_cost(chart, (shut, ()), (None, None)))
        self.assertIsNone(help_cost(chart, (shut, ()), (1, None)))
        self.assertEqual(help_cost(chart, (shut, ()), (None, 9)), 13)
        self.assertEqual(tool_costs(chart, shut, (1, 9)), [None, None, 13, 13])
        self.assertEqual(tool_costs(chart, shut, (None, 9)), [None, None, 13, 13])
        self.assertEqual(tool_costs(chart, shut, (9, None)), [None] * 4)
        # A mended road counts as one that is shut, so all others are open.
        chart = Map(3, ((0, 1, 1), (1, 2, 1)), (0, 2), 1)
        self.assertEqual(help_cost(chart, ((0, (), (0,)), (0,)), (None, None)), 2)
        self.assertIsNone(help_cost(chart, ((0, (0,), ()), ()), (None, None)))

    def test_calls(self):
        # One call tells which of two ways to take; if most roads are known to be shut, a call tells nothing new.
        chart = Map(4, ((0, 1, 5), (0, 2, 5), (1, 3, 1), (2, 3, 1)), (0, 3), 1)
        state = (0, (0, 1), ())
        self.assertEqual(tool_costs(chart, state, (1, None)), [16, 7, 16, 7])
        self.assertEqual(help_cost(chart, ((0, (0, 1), (2,)), ()), (1, 1)), 6)

    def test_the_order_of_results_does_not_matter_for_new_answers(self):
        for plan, position, tools, found in found_answers(20, 6, (Help, Lost)):
            self.assertEqual(help_for(Map(*plan), position, tools), found)


class Attributes(unittest.TestCase):
    def test_kinds_of_values(self):
        for _, _, _, found in found_answers(20, 7, Help):
            self.assertIs(type(found.cost), int)
            for table in (found.heights, found.levels):
                self.assertIs(type(table), dict)
                self.assertTrue(all(type(value) is int for value in table.values()))
        for _, _, _, found in found_answers(20, 7, Lost):
            self.assertIs(type(found.spots), list)

    def test_dicts_and_lists_are_copied(self):
        heights, levels, spots = {START: 5, GOAL: 0}, {START: 5}, [SHUT, END, BLOCKED]
        found, lost = Help(5, heights, levels), Lost(spots)
        heights[START] = 1
        levels.clear()
        spots.pop()
        self.assertEqual((found.heights, found.levels), ({START: 5, GOAL: 0}, {START: 5}))
        self.assertEqual(lost.spots, [SHUT, END, BLOCKED])
        found.heights.clear()
        found.levels[GOAL] = 0
        lost.spots.append(SHUT)
        self.assertEqual((heights, levels, spots), ({START: 1, GOAL: 0}, {}, [SHUT, END]))
        one = Help(5, heights, heights)
        one.heights.clear()
        self.assertEqual(one.levels, heights)

    def test_parameters_may_be_named(self):
        self.assertEqual(Help(levels={}, heights={GOAL: 0}, cost=0), Help(0, {GOAL: 0}, {}))
        self.assertEqual(Lost(spots=[SHUT]), Lost([SHUT]))

    def test_a_lost_can_be_iterated_over_each_time_anew(self):
        lost = Lost([SHUT, END, SHUT])
        self.assertEqual([list(lost), list(lost), [spot for spot in lost]], [[SHUT, END, SHUT]] * 3)
        self.assertEqual([(one, two) for one in lost for two in lost][:4], [(SHUT, SHUT), (SHUT, END), (SHUT, SHUT),
                                                                           (END, SHUT)])
        lost.spots.append(BLOCKED)
        self.assertEqual(list(lost), [SHUT, END, SHUT, BLOCKED])
        self.assertEqual(list(Lost([])), [])
        for _, _, _, found in found_answers(10, 8, Lost):
            self.assertEqual(list(found), found.spots)

    def test_answers_are_new_each_time(self):
        found = help_for(Map(*FORK), START, (1, 2))
        kept = help_for(Map(*FORK), START, (1, 2))
        found.heights.clear()
        found.levels.clear()
        self.assertEqual(help_for(Map(*FORK), START, (1, 2)), kept)
        lost = help_for(Map(*WORSE), SHUT, (None, None))
        lost.spots.clear()
        self.assertTrue(help_for(Map(*WORSE), SHUT, (None, None)).shows(Map(*WORSE), SHUT, (None, None)))

    def test_changed_attributes_count(self):
        chart = Map(*FORK)
        found = help_for(chart, START, (1, 2))
        found.cost = 3
        self.assertFalse(found.shows(chart, START, (1, 2)))
        self.assertNotEqual(found, help_for(chart, START, (1, 2)))
        found.cost = 4
        self.assertTrue(found.shows(chart, START, (1, 2)))
        found.heights[START] = 1
        self.assertFalse(found.shows(chart, START, (1, 2)))
        self.assertNotEqual(found, help_for(chart, START, (1, 2)))
        lost = Lost([SHUT])
        self.assertFalse(lost.shows(Map(*WORSE), SHUT, (None, None)))
        lost.spots.extend([END, BLOCKED])
        self.assertTrue(lost.shows(Map(*WORSE), SHUT, (None, None)))
        self.assertEqual(lost, Lost([SHUT, END, BLOCKED]))
        lost.spots = [SHUT]
        self.assertFalse(lost.shows(Map(*WORSE), SHUT, (None, None)))


class Equality(unittest.TestCase):
    def test_two_are_equal_if_their_attributes_are(self):
        given = [(5, {START: 5}, {START: 5}), (4, {START: 5}, {START: 5}), (5, {START: 4}, {START: 5}),
                 (5, {START: 5}, {}), (5, {}, {START: 5})]
        for left in given:
            for right in given:
                self.assertIs(Help(*left) == Help(*right), left == right)
                self.assertIs(Help(*left) != Help(*right), left != right)
        given = [[], [SHUT], [SHUT, SHUT], [SHUT, END], [END, SHUT]]
        for left in given:
            for right in given:
                self.assertIs(Lost(left) == Lost(right), left == right)
                self.assertIs(Lost(left) != Lost(right), left != right)

    def test_objects_of_other_classes_are_not_equal(self):
        some = [Help(1, {}, {}), Lost([]), Lost([1]), Sure(1, {}, {}), Surplus(1, {}, {}), Ratio(1, {}, {}), Parted([1]),
                Parted([]), Map(*FORK), TooLarge("no")]
        for left in some:
            for right in some:
                self.assertIs(left == right, left is right)
                self.assertIs(left != right, left is not right)


class ShowsHelp(unittest.TestCase):
    def check(self, plan, position, tools, cost, heights, levels):
        shown = Help(cost, heights, levels).shows(Map(*plan), position, tools)
        self.assertIs(shown, tables_model.help_is_shown(plan, position, tools, cost, heights, levels))
        return shown

    def test_in_another_order(self):
        source = Random(9)
        for plan, position, tools, found in found_answers(25, 9, Help):
            turned = [tables_model.in_another_order(table, source) for table in (found.heights, found.levels)]
            self.assertTrue(self.check(plan, position, tools, found.cost, *turned))

    def test_another_cost(self):
        for plan, position, tools, found in found_answers(40, 10, Help):
            for cost in (found.cost - 1, found.cost + 1, -1, -found.cost - 1, 10 ** 30):
                self.assertFalse(self.check(plan, position, tools, cost, found.heights, found.levels))

    def test_changed_tables(self):
        source = Random(11)
        results = []
        for plan, position, tools, found in found_answers(25, 11, Help):
            others = all_positions(plan)
            others = source.sample(others, min(30, len(others)))
            for heights in tables_model.changed_tables(found.heights, others, source, 4):
                results.append(self.check(plan, position, tools, found.cost, heights, found.levels))
            for levels in tables_model.changed_tables(found.levels, others, source, 4):
                results.append(self.check(plan, position, tools, found.cost, found.heights, levels))
        self.assertGreater(min(results.count(True), results.count(False)), 300)

    def test_too_low_heights_and_too_high_levels_are_never_right(self):
        source = Random(12)
        for plan, position, tools, found in found_answers(15, 12, Help):
            for entry in source.sample(sorted(found.heights), min(10, len(found.heights))):
                lower = {**found.heights, entry: found.heights[entry] - 1}
                self.assertFalse(self.check(plan, position, tools, found.cost, lower, found.levels))
                higher = {**found.levels, entry: found.heights[entry] + 1}
                self.assertFalse(self.check(plan, position, tools, found.cost, found.heights, higher))

    def test_the_position_itself_must_be_there(self):
        for plan, position, tools, found in found_answers(15, 13, Help):
            heights = {entry: found.heights[entry] for entry in found.heights if entry != position}
            levels = {entry: found.levels[entry] for entry in found.levels if entry != position}
            self.assertFalse(self.check(plan, position, tools, found.cost, heights, found.levels))
            self.assertFalse(self.check(plan, position, tools, found.cost, {}, found.levels))
            free = found.cost == 0
            self.assertIs(self.check(plan, position, tools, found.cost, found.heights, levels), free)
            self.assertIs(self.check(plan, position, tools, found.cost, found.heights, {}), free)

    def test_heights_below_0_are_wrong_and_levels_of_0_and_below_say_nothing(self):
        found = help_for(Map(*FORK), START, (1, 2))
        for goal in (GOAL, ((2, (2,), (1,)), ()), ((2, (2,), (1,)), (1,)), ((2, (1, 2), ()), ())):
            for height in (0, 3, -1, -10 ** 30):
                shown = height == 0 or height > 0 and goal not in found.heights
                self.assertIs(self.check(FORK, START, (1, 2), 4, {**found.heights, goal: height}, found.levels), shown)
            for level, shown in ((0, True), (-1, True), (-10 ** 30, True), (1, False)):
                self.assertIs(self.check(FORK, START, (1, 2), 4, found.heights, {**found.levels, goal: level}), shown)
            self.assertTrue(self.check(FORK, goal, (1, 2), 0, {goal: 0}, {goal: 0}))
            self.assertFalse(self.check(FORK, goal, (1, 2), -1, {goal: -1}, {}))
            self.assertFalse(self.check(FORK, goal, (1, 2), 1, {goal: 0}, {goal: 1}))
        for level in (0, -1):
            self.assertFalse(self.check(FORK, START, (1, 2), 4, found.heights, {**found.levels, START: level}))

    def test_where_there_is_no_cost(self):
        for plan, position, tools, found in found_answers(25, 14, Lost):
            spots = {spot: True for spot in found}
            for value in (0, 1, 9, 60):
                table = dict.fromkeys(spots, value)
                self.assertFalse(self.check(plan, position, tools, value, table, table))
                self.assertFalse(self.check(plan, position, tools, value, {position: value}, {position: value}))

    def test_other_tools(self):
        found = help_for(Map(*FORK), START, (1, 2))
        for call, mending in product((None, 1, 2, 9), repeat=2):
            shown = self.check(FORK, START, (call, mending), found.cost, found.heights, found.levels)
            # The least cost is that of mending the road 2 if it is shut.
            self.assertIs(shown, mending == 2)

    def test_positions_of_no_other_kind_are_shown(self):
        chart = Map(*FORK)
        found = help_for(chart, START, (1, 2))
        self.assertFalse(Help(4, {**found.heights, ((3, (), ()), ()): 9}, found.levels).shows(chart, START, (1, 2)))
        self.assertFalse(Help(4, found.heights, {**found.levels, ((0, (0, 1), ()), (2,)): 0}).shows(chart, START, (1, 2)))

    def test_booleans_are_no_costs(self):
        chart = Map(*FORK)
        position = ((1, (0, 1, 2), ()), ())
        heights = {position: 1, GOAL: 0}
        self.assertTrue(Help(1, heights, {position: 1}).shows(chart, position, (1, 2)))
        self.assertFalse(Help(True, heights, {position: 1}).shows(chart, position, (1, 2)))


class ShowsLost(unittest.TestCase):
    def check(self, plan, position, tools, spots):
        shown = Lost(spots).shows(Map(*plan), position, tools)
        self.assertIs(shown, tables_model.lost_is_shown(plan, position, tools, spots))
        return shown

    def test_in_another_order_and_more_than_once(self):
        source = Random(15)
        for plan, position, tools, found in found_answers(30, 15, Lost):
            spots = list(found)
            self.assertTrue(self.check(plan, position, tools, spots + spots))
            source.shuffle(spots)
            self.assertTrue(self.check(plan, position, tools, [*spots, position, *spots[:2], position]))

    def test_one_less_or_more(self):
        source = Random(16)
        results = []
        for plan, position, tools, found in found_answers(40, 16, Lost):
            spots = list(found)
            self.assertFalse(self.check(plan, position, tools, []))
            self.assertFalse(self.check(plan, position, tools, [spot for spot in spots if spot != position]))
            for spot in source.sample(spots, min(8, len(spots))):
                fewer = [known for known in spots if known != spot]
                results.append(self.check(plan, position, tools, fewer))
            others = all_positions(plan)
            for spot in source.sample(others, min(12, len(others))):
                results.append(self.check(plan, position, tools, [*spots, spot]))
                if spot[0][0] == plan.ends[1]:
                    self.assertFalse(results[-1])
            results.append(self.check(plan, position, tools, [position]))
        self.assertGreater(min(results.count(True), results.count(False)), 100)

    def test_where_there_is_a_cost(self):
        source = Random(17)
        for plan, position, tools, _ in found_answers(20, 17, Help):
            costs = tables_model.help_costs(plan, position, tools)
            self.assertFalse(self.check(plan, position, tools, list(costs)))
            self.assertFalse(self.check(plan, position, tools, [spot for spot in costs if spot[0][0] != plan.ends[1]]))
            lost = [spot for spot in costs if costs[spot] == float("inf")]
            self.assertFalse(self.check(plan, position, tools, lost))
            self.assertFalse(self.check(plan, position, tools, [*lost, position]))
            others = all_positions(plan)
            self.assertFalse(self.check(plan, position, tools, [position, *source.sample(others, min(9, len(others)))]))

    def test_another_position_of_the_list(self):
        for plan, position, tools, found in found_answers(20, 18, Lost):
            for spot in list(found)[:5]:
                self.assertTrue(self.check(plan, spot, tools, list(found)))

    def test_positions_without_any_move(self):
        alone = Plan(3, ((1, 2, 1),), (0, 2), 1)
        for state in ((0, (0,), ()), (0, (), (0,))):
            self.assertTrue(self.check(alone, (state, ()), (1, 1), [(state, ())]))
            self.assertEqual(help_for(Map(*alone), (state, ()), (1, 1)), Lost([(state, ())]))
        state = (0, (), ())
        self.assertFalse(self.check(alone, (state, ()), (1, 1), [(state, ())]))
        self.assertTrue(self.check(alone, (state, ()), (None, 1), [(state, ())]))
        self.assertTrue(self.check(alone, (state, ()), (1, 1), [(state, ()), ((0, (), (0,)), ())]))

    def test_positions_of_no_other_kind_are_shown(self):
        chart = Map(*WORSE)
        spots = [SHUT, END, BLOCKED]
        self.assertTrue(Lost(spots).shows(chart, SHUT, (None, None)))
        for wrong in (SHUT[0], ((3, (), ()), ()), (SHUT[0], (0,)), None):
            self.assertFalse(Lost([*spots, wrong]).shows(chart, SHUT, (None, None)))


class Limit(unittest.TestCase):
    def test_exactly_the_limit(self):
        for plan, position, tools, cost in LIMIT:
            chart = Map(*plan)
            costs = tables_model.help_costs(plan, position, tools)
            self.assertEqual(len(costs), 600)
            self.assertEqual(costs[position], float("inf") if cost is None else cost)
            found = help_for(chart, position, tools)
            self.assertTrue(found.shows(chart, position, tools))
            self.assertEqual(help_cost(chart, position, tools), cost)

    def test_one_more(self):
        for plan, position, tools in OVER:
            self.assertEqual(len(tables_model.positions_from(plan, position, tools, 700)), 601)
            for call in (help_for, help_cost):
                with self.assertRaises(TooLarge):
                    call(Map(*plan), position, tools)
            with self.assertRaises(TooLarge):
                tool_costs(Map(*plan), position[0], tools)

    def test_shows_has_no_limit(self):
        kinds = []
        for plan, position, tools in OVER:
            chart = Map(*plan)
            with mock.patch.object(tables, "MOST_ENTRIES", 601):
                found = help_for(chart, position, tools)
            kinds.append(type(found))
            self.assertTrue(found.shows(chart, position, tools))
            self.assertFalse(Help(1, {}, {}).shows(chart, position, tools))
            self.assertFalse(Lost([position]).shows(chart, position, tools))
        self.assertEqual(kinds, [Help, Help, Lost, Lost])

    def test_the_limit_comes_ahead_of_lost(self):
        chart = Map(*WIDE)
        state = first_states(chart)[0]
        self.assertIsNone(sure_length(chart, state))
        for tools in KINDS:
            for call in (help_for, help_cost):
                with self.assertRaises(TooLarge):
                    call(chart, (state, ()), tools)
            with self.assertRaises(TooLarge):
                tool_costs(chart, state, tools)

    def test_each_of_the_tool_costs_has_the_limit(self):
        # Too many positions with both tools only, or with one of them.
        chart = Map(3, tuple((0, 1, length) for length in range(1, 8)), (2, 0), 3)
        state = (2, (), ())
        self.assertEqual(tool_costs(chart, state, (None, 1)), [None] * 4)
        self.assertEqual(tool_costs(chart, state, (None, None)), [None] * 4)
        with mock.patch.object(tables, "MOST_ENTRIES", 5):
            self.assertEqual(tool_costs(chart, state, (None, 1)), [None] * 4)
            with self.assertRaises(TooLarge):
                tool_costs(chart, state, (1, None))
        two = Map(2, ((0, 1, 1), (0, 1, 2)), (0, 1), 2)
        shut = (0, (), (0, 1))
        with mock.patch.object(tables, "MOST_ENTRIES", 1):
            self.assertEqual(tool_costs(two, shut, (1, None)), [None] * 4)
            with self.assertRaises(TooLarge):
                tool_costs(two, shut, (None, 1))

    def test_the_greatest_maps(self):
        source = Random(19)
        answered = refused = 0
        for _ in range(12):
            triples = set()
            while len(triples) < 8:
                triples.add((*sorted(source.sample(range(6), 2)), source.randint(1, 9)))
            plan = Plan(6, tuple(sorted(triples)), tuple(source.sample(range(6), 2)), 3)
            chart = Map(*plan)
            state = source.choice(model.first(plan))
            for tools in some_tools(source):
                position = (state, source.choice(model.subsets(state[2])))
                many = len(tables_model.positions_from(plan, position, tools, 600))
                self.assertTrue(moves(chart, position, tools) or many == 1)
                if many > 600:
                    refused += 1
                    with self.assertRaises(TooLarge):
                        help_for(chart, position, tools)
                else:
                    answered += 1
                    self.assertTrue(help_for(chart, position, tools).shows(chart, position, tools))
        self.assertGreater(min(answered, refused), 5)


class Errors(unittest.TestCase):
    def calls(self):
        yield moves
        yield help_for
        yield help_cost
        yield Help(5, {START: 5}, {START: 5}).shows
        yield Lost([START]).shows

    bad_positions = (
        *OTHER_KINDS, 0, (), START[0], (START[0],), (START[0], (), ()), [START[0], ()], (START[0], []), (START[0], None),
        (START[0], 0), (START[0], (0,)), (START[0], (2,)), (BLOCKED[0], (2, 1)), (BLOCKED[0], (1, 1)), (BLOCKED[0], (0,)),
        (BLOCKED[0], (1, 3)), (BLOCKED[0], (True,)), (BLOCKED[0], (-1,)), (BLOCKED[0], [1]), (BLOCKED[0], (1, None)),
        ((0, (0,), ()), ()), ((3, (), ()), ()), ((True, (0, 1, 2), ()), ()), ((0, (0, 1), (0,)), ()), (None, ()),
        (list(START[0]), ()), ((0, (), (0, 1, 2)), ()), ((0, (0, True), ()), ()),
    )
    bad_tools = (
        *OTHER_KINDS, 0, 1, (), (1,), (None,), (1, 2, 3), (None, None, None), [1, 2], [None, None], (0, 1), (1, 0), (10, 1),
        (1, 10), (-1, 1), (1, -1), (True, 1), (1, True), (False, None), ("1", 1), (1, "1"), ((1,), 1), (None, []), "12",
        {1: 2, 3: 4}, (10 ** 30, 1), (..., None),
    )

    def test_no_map(self):
        for chart in (*OTHER_KINDS, 3, FORK, ()):
            for position, tools in product((START, None, START[0]), ((1, 2), None, (0, 0))):
                for call in self.calls():
                    with self.assertRaises(BadMap) as caught:
                        call(chart, position, tools)
                    self.assertIsNone(caught.exception.part)
            for state, tools in product((START[0], None, START), ((1, 2), None)):
                with self.assertRaises(BadMap) as caught:
                    tool_costs(chart, state, tools)
                self.assertIsNone(caught.exception.part)

    def test_no_position(self):
        chart = Map(*WORSE)
        self.assertEqual(moves(chart, (BLOCKED[0], (1,)), (None, None)), [("road", 0), ("road", 1)])
        self.assertEqual(moves(chart, (BLOCKED[0], (1, 2)), (None, None)), [("road", 0), ("road", 1)])
        for position in self.bad_positions:
            for call, tools in product(self.calls(), ((None, None), (1, 2), None, (0, 1))):
                with self.subTest(position=position), self.assertRaises(BadPosition):
                    call(chart, position, tools)

    def test_no_state(self):
        for state in (*OTHER_KINDS, 0, (), START, (0, (0,), ()), (0, (0, 1), [], ()), (3, (), ()), (False, (0, 1), ()),
                      (0, (), (0, 1, 2)), (0, (0, True), ()), [0, (0, 1), ()]):
            for tools in ((None, None), (1, 2), None, (0, 1)):
                with self.subTest(state=state), self.assertRaises(BadState):
                    tool_costs(Map(*WORSE), state, tools)

    def test_no_tools(self):
        for plan, position in ((FORK, START), (FORK, GOAL), (OVER[0][0], OVER[0][1])):
            for tools in self.bad_tools:
                for call in self.calls():
                    with self.subTest(tools=tools), self.assertRaises(BadTools):
                        call(Map(*plan), position, tools)
                with self.subTest(tools=tools), self.assertRaises(BadTools):
                    tool_costs(Map(*plan), position[0], tools)

    def test_prices_from_1_to_9(self):
        for tools in product((None, 1, 9), repeat=2):
            self.assertTrue(moves(Map(*FORK), START, tools))
            self.assertEqual(len(tool_costs(Map(*FORK), START[0], tools)), 4)


if __name__ == "__main__":
    unittest.main()
