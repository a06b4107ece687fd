import copy
import time
import unittest
from random import Random

import guards_model
import model
import tables_model
from model import FORK, OTHER_KINDS, Plan
from shutroads.errors import BadBound, BadMap, TooLarge, TooShort
from shutroads.guards import Guards, guard, guard_price
from shutroads.helps import Help, Lost
from shutroads.maps import Map, open_length
from shutroads.regrets import Ratio, Surplus
from shutroads.sure import Parted, Sure, sure

WORSE = FORK._replace(most=2)
START, LOST, BACK = (0, (0, 1), ()), (1, (0, 1), (2,)), (0, (0, 1), (2,))
SHUT = (0, (1, 2), (0,))
FIRST, SECOND = ("slow", START, {START: 3, LOST: 2, BACK: 1}), ("slow", SHUT, {SHUT: 5})
PRICE = ("price", None, None)
TREE = (0, (2, PRICE, FIRST), SECOND)
HEIGHTS = {
    (0, (0, 1, 2), ()): 2, (0, (0, 2), (1,)): 2, (1, (0, 1, 2), ()): 1, (1, (0, 2), (1,)): 1, (2, (0, 1, 2), ()): 0,
    (2, (0, 2), (1,)): 0,
}
SIX = Plan(6, ((0, 1, 2), (0, 2, 3), (1, 3, 2), (2, 3, 1), (3, 4, 4), (3, 5, 1)), (0, 5), 3)
NO_BOUNDS = (0, -1, 61, 10 ** 30, -10 ** 30, (), (1,), *OTHER_KINDS)


def world_of(reason):
    return reason.world if isinstance(reason, Parted) else None


def small_plan(source):
    places = source.randint(2, 4)
    triples = {}
    for _ in range(source.randint(1, 6)):
        first, second = sorted(source.sample(range(places), 2))
        triples[first, second, source.randint(1, 9)] = True
    return Plan(places, tuple(sorted(triples)), tuple(source.sample(range(places), 2)), source.randint(0, 3))


def drawn(many, seed):
    """Yield drawn maps with bounds, most of them near the least length."""
    source = Random(seed)
    for _ in range(many):
        plan = small_plan(source)
        length = model.shortest(plan, ())
        bounds = {source.randint(1, 60), 1, 60}
        if length is not None:
            bounds |= {length + more for more in (-1, 0, 1, source.randint(2, 9)) if 1 <= length + more <= 60}
        for bound in sorted(bounds):
            yield plan, bound


def found_guards(many, seed):
    for plan, bound in drawn(many, seed):
        if not guards_model.is_too_short(plan, bound):
            yield plan, bound, guard(Map(*plan), bound)


class Example(unittest.TestCase):
    def test_the_example_of_the_document(self):
        fork, worse = [Map(3, ((0, 1, 1), (0, 2, 5), (1, 2, 1)), (0, 2), most) for most in (1, 2)]
        found = guard(worse, 7)
        start, lost, back = (0, (0, 1), ()), (1, (0, 1), (2,)), (0, (0, 1), (2,))
        first = ('slow', start, {start: 3, lost: 2, back: 1})
        second = ('slow', (0, (1, 2), (0,)), {(0, (1, 2), (0,)): 5})
        tree = (0, (2, ('price', None, None), first), second)
        heights = {(0, (0, 1, 2), ()): 2, (0, (0, 2), (1,)): 2, (1, (0, 1, 2), ()): 1, (1, (0, 2), (1,)): 1,
                   (2, (0, 1, 2), ()): 0, (2, (0, 2), (1,)): 0}
        shown = [found.shows(worse, 7), Guards(found.guarded, found.heights, ('price', None, None)).shows(worse, 7),
                 Guards((0, 2), heights, tree).shows(fork, 2), Guards((0, 2), heights, (0, first, second)).shows(fork, 2)]
        answer = [[guard_price(fork, bound) for bound in (2, 4, 5)], [guard_price(worse, bound) for bound in (2, 5, 7)],
                  found.guarded, shown]
        self.assertEqual(answer, [[2, 2, 0], [2, 2, 2], (0, 2), [True, False, True, False]])

    def test_all_is_defined_in_its_file_and_class(self):
        self.assertEqual({found.__module__ for found in (guard, guard_price, Guards)}, {"shutroads.guards"})
        for name in ("shows", "__iter__", "__eq__", "__init__"):
            self.assertIn(name, vars(Guards))


class Prices(unittest.TestCase):
    def test_against_the_model(self):
        kinds = {"short": 0, "none": 0, "some": 0, "way": 0}
        for plan, bound in drawn(200, 1):
            chart = Map(*plan)
            if guards_model.is_too_short(plan, bound):
                kinds["short"] += 1
                for call in (guard, guard_price):
                    with self.assertRaises(TooShort):
                        call(chart, bound)
                continue
            price = guards_model.price(plan, bound)
            found = guard(chart, bound)
            self.assertEqual(guard_price(chart, bound), price)
            self.assertEqual(guards_model.cost_of(plan, found.guarded), price)
            self.assertTrue(guards_model.is_sure(plan, bound, found.guarded))
            self.assertIs(found.shows(chart, bound), True)
            self.assertTrue(guards_model.is_shown(plan, bound, found.guarded, found.heights, found.tree, world_of))
            length = model.shortest(plan, ())
            kinds["none" if price == 0 else "way" if price == length else "some"] += 1
        # All kinds must really be there, or the comparison says nothing of one.
        self.assertGreater(min(kinds.values()), 10)

    def test_bounds_that_need_no_guards_or_all_of_a_way(self):
        for plan, wanted in ((FORK, [2, 2, 2, 0]), (WORSE, [2, 2, 2, 2]), (FORK._replace(most=0), [0, 0, 0, 0])):
            chart = Map(*plan)
            self.assertEqual([guard_price(chart, bound) for bound in (2, 3, 4, 5)], wanted)
            with self.assertRaises(TooShort):
                guard_price(chart, 1)
        self.assertEqual(guard(Map(*FORK), 5), Guards((), guard(Map(*FORK), 5).heights, PRICE))
        self.assertEqual(guard(Map(*FORK), 2).guarded, (0, 2))

    def test_the_least_and_the_greatest_bound(self):
        chart = Map(2, ((0, 1, 1), (0, 1, 2)), (0, 1), 1)
        self.assertEqual([guard_price(chart, bound) for bound in (1, 2, 60)], [1, 0, 0])
        line = Map(6, tuple((place, place + 1, 9) for place in range(5)), (0, 5), 0)
        self.assertEqual([guard_price(line, bound) for bound in (45, 60)], [0, 0])
        with self.assertRaises(TooShort):
            guard(line, 44)

    def test_no_way_at_all(self):
        for most in range(4):
            chart = Map(3, ((0, 1, 1),), (0, 2), most)
            for bound in (1, 60):
                for call in (guard, guard_price, Guards((), {}, PRICE).shows):
                    with self.assertRaises(TooShort):
                        call(chart, bound)

    def test_all_roads_of_a_way_that_may_be_parted(self):
        chart = Map(3, ((0, 1, 4), (1, 2, 5)), (0, 2), 1)
        self.assertEqual([guard(chart, bound).guarded for bound in (9, 10, 60)], [(0, 1)] * 3)
        # The shortest road is enough for the bound of the next one, too, and its guards are cheaper.
        chart = Map(2, ((0, 1, 3), (0, 1, 4), (0, 1, 5)), (0, 1), 2)
        self.assertEqual([guard(chart, bound).guarded for bound in (3, 4, 5)], [(0,), (0,), ()])

    def test_the_price_does_not_rise_with_the_bound(self):
        source = Random(2)
        for _ in range(20):
            plan = small_plan(source)
            length = model.shortest(plan, ())
            if length is not None:
                prices = [guard_price(Map(*plan), bound) for bound in range(length, 61)]
                self.assertEqual(prices, sorted(prices, reverse=True))


class Attributes(unittest.TestCase):
    def test_kinds_of_values(self):
        words = {"price": 0, "slow": 0, "parted": 0}
        for plan, bound, found in found_guards(40, 3):
            self.assertIs(type(found.guarded), tuple)
            self.assertIs(type(found.heights), dict)
            self.assertTrue(all(type(height) is int for height in found.heights.values()))
            for leaf, _, _, _ in guards_model.leaves(found.tree):
                self.assertIs(type(leaf), tuple)
                if leaf[0] == "slow":
                    self.assertIn(type(leaf[2]), (dict, Parted))
                words["parted" if isinstance(leaf[2], Parted) else leaf[0]] += 1
            for tree, _ in guards_model.nodes(found.tree):
                self.assertEqual((type(tree), len(tree)), (tuple, 3))
        self.assertGreater(min(words.values()), 30)

    def test_dicts_are_copied_also_those_within_the_tree(self):
        heights, levels, others = dict(HEIGHTS), dict(FIRST[2]), dict(SECOND[2])
        parted = Parted((1,))
        found = Guards((0, 2), heights, (0, (2, ("slow", START, parted), ("slow", START, levels)), ("slow", SHUT, others)))
        heights.clear()
        levels[START] = 1
        others.clear()
        parted.world = ()
        self.assertEqual(found, Guards((0, 2), HEIGHTS, (0, (2, ("slow", START, Parted((1,))), FIRST), SECOND)))
        found.heights.clear()
        found.tree[1][2][2].clear()
        found.tree[2][2][BACK] = 0
        self.assertEqual((heights, levels, others), ({}, {START: 1, LOST: 2, BACK: 1}, {}))

    def test_parameters_may_be_named(self):
        self.assertEqual(Guards(tree=TREE, heights=HEIGHTS, guarded=(0, 2)), Guards((0, 2), HEIGHTS, TREE))

    def test_answers_are_new_each_time(self):
        chart = Map(*WORSE)
        found, kept = guard(chart, 7), guard(chart, 7)
        found.heights.clear()
        for leaf, _, _, _ in guards_model.leaves(found.tree):
            if isinstance(leaf[2], dict):
                leaf[2].clear()
            elif isinstance(leaf[2], Parted):
                leaf[2].world = ()
        self.assertEqual(guard(chart, 7), kept)
        self.assertTrue(kept.shows(chart, 7))

    def test_guards_can_be_iterated_over_each_time_anew(self):
        found = Guards((0, 2, 3), {}, None)
        self.assertEqual([list(found), list(found), [road for road in found]], [[0, 2, 3]] * 3)
        self.assertEqual([(one, two) for one in found for two in found][:4], [(0, 0), (0, 2), (0, 3), (2, 0)])
        found.guarded = (1,)
        self.assertEqual(list(found), [1])
        for _, _, found in found_guards(10, 4):
            self.assertEqual(tuple(found), found.guarded)

    def test_changed_attributes_count(self):
        chart = Map(*FORK)
        found = Guards((0, 2), HEIGHTS, TREE)
        for name, wrong in (("guarded", (0,)), ("heights", {}), ("tree", PRICE)):
            right = getattr(found, name)
            self.assertTrue(found.shows(chart, 2))
            setattr(found, name, wrong)
            self.assertFalse(found.shows(chart, 2))
            self.assertNotEqual(found, Guards((0, 2), HEIGHTS, TREE))
            setattr(found, name, right)
        found.tree[2][2][SHUT] = 2
        self.assertFalse(found.shows(chart, 2))

    def test_shows_changes_nothing(self):
        for plan, bound, found in found_guards(10, 5):
            kept = copy.deepcopy((found.guarded, list(found.heights.items()), found.tree))
            found.shows(Map(*plan), bound)
            self.assertEqual((found.guarded, list(found.heights.items()), found.tree), kept)


class Equality(unittest.TestCase):
    def test_two_are_equal_if_their_attributes_are(self):
        given = [((0, 2), HEIGHTS, TREE), ((0,), HEIGHTS, TREE), ((0, 2), {}, TREE), ((0, 2), HEIGHTS, PRICE),
                 ((0, 2), HEIGHTS, (0, (2, PRICE, FIRST), FIRST)), ((0, 2), HEIGHTS, ("slow", START, Parted((1,)))),
                 ((0, 2), HEIGHTS, ("slow", START, Parted((2,)))), ((0, 2), HEIGHTS, None)]
        for left in given:
            for right in given:
                self.assertIs(Guards(*left) == Guards(*right), left == right)
                self.assertIs(Guards(*left) != Guards(*right), left != right)

    def test_the_order_of_dicts_does_not_count(self):
        source = Random(6)
        levels = tables_model.in_another_order(FIRST[2], source)
        other = Guards((0, 2), tables_model.in_another_order(HEIGHTS, source),
                       (0, (2, PRICE, ("slow", START, levels)), SECOND))
        self.assertEqual(other, Guards((0, 2), HEIGHTS, TREE))
        self.assertTrue(other.shows(Map(*FORK), 2))

    def test_objects_of_other_classes_are_not_equal(self):
        some = [Guards((), {}, ()), Sure((), {}, ()), Surplus((), {}, ()), Ratio((), {}, ()), Help((), {}, ()), Lost(()),
                Parted(()), Map(*FORK), BadMap(None)]
        for left in some:
            for right in some:
                self.assertIs(left == right, left is right)
                self.assertIs(left != right, left is not right)


class Shows(unittest.TestCase):
    def check(self, plan, bound, guarded, heights, tree):
        shown = Guards(guarded, heights, tree).shows(Map(*plan), bound)
        self.assertIs(shown, guards_model.is_shown(plan, bound, guarded, heights, tree, world_of))
        return shown

    def test_other_guarded_roads(self):
        results = []
        for plan, bound, found in found_guards(30, 7):
            for some in guards_model.all_sets(plan):
                results.append(self.check(plan, bound, some, found.heights, found.tree))
                # Heights from all states are as good as any, so only the roads themselves can be wrong.
                costs = {state: cost for state, cost in guards_model.lengths(plan).items() if cost < 10 ** 6}
                shown = self.check(plan, bound, some, costs, found.tree)
                results.append(shown)
                if guards_model.cost_of(plan, some) > guards_model.cost_of(plan, found.guarded) and shown:
                    self.assertEqual(found.tree, PRICE)
        self.assertGreater(results.count(False), 500)

    def test_cheaper_and_dearer_guards(self):
        all_of_it = {state: cost for state, cost in guards_model.lengths(FORK).items() if cost < 10 ** 6}
        self.assertTrue(self.check(FORK, 2, (0, 2), all_of_it, TREE))
        self.assertFalse(self.check(FORK, 2, (0, 1, 2), all_of_it, TREE))
        for cheaper in ((), (0,), (2,)):
            self.assertFalse(self.check(FORK, 2, cheaper, all_of_it, TREE))
        # With other leaves, only that these are dearer counts.
        self.assertFalse(self.check(FORK, 5, (0,), all_of_it, PRICE))
        self.assertTrue(self.check(FORK, 5, (), all_of_it, PRICE))

    def test_guarded_roads_that_are_none(self):
        wrong = ((2, 0), (0, 0, 2), (0, 2, 2), (0, 2, 3), (-1, 0, 2), (0, -1), (-3, -1), (0, 1, 2, 3), (0, 10 ** 30))
        for guarded in wrong:
            for heights in (HEIGHTS, {}):
                for tree in (TREE, PRICE):
                    self.assertFalse(self.check(FORK, 2, guarded, heights, tree), guarded)
        self.assertFalse(Guards((False, 2), HEIGHTS, TREE).shows(Map(*FORK), 2))
        # Some of these are no heights for the roads, but all of them are for those that are sorted.
        for plan, bound, found in found_guards(10, 8):
            for other in (found.guarded[::-1], found.guarded * 2, (*found.guarded, len(plan.roads)), (-1, *found.guarded)):
                if other != found.guarded:
                    self.assertFalse(self.check(plan, bound, other, found.heights, found.tree))

    def test_changed_heights(self):
        source = Random(9)
        results = []
        for plan, bound, found in found_guards(12, 9):
            others = tables_model.all_states(plan)
            others = source.sample(others, min(20, len(others)))
            for heights in tables_model.changed_tables(found.heights, others, source, 3):
                results.append(self.check(plan, bound, found.guarded, heights, found.tree))
            for state in others:
                self.assertFalse(self.check(plan, bound, found.guarded, {**found.heights, state: -1}, found.tree))
        self.assertGreater(min(results.count(True), results.count(False)), 150)

    def test_each_height_of_the_example(self):
        firsts = guards_model.first_with(FORK, (0, 2))
        for state in HEIGHTS:
            for change in (-3, -1):
                changed = {**HEIGHTS, state: HEIGHTS[state] + change}
                self.assertFalse(self.check(FORK, 2, (0, 2), changed, TREE))
            self.assertFalse(self.check(FORK, 2, (0, 2), {**HEIGHTS, state: HEIGHTS[state] + 1}, TREE))
            self.assertFalse(self.check(FORK, 2, (0, 2), {known: HEIGHTS[known] for known in HEIGHTS if known != state},
                                        TREE))
        for state in firsts:
            self.assertFalse(self.check(FORK, 2, (0, 2), {**HEIGHTS, state: 3}, TREE))
        self.assertFalse(self.check(FORK, 2, (0, 2), {}, TREE))
        # A state that cannot come about may have a height, but it must be one that is enough.
        self.assertTrue(self.check(FORK, 2, (0, 2), {**HEIGHTS, (2, (1, 2), ()): 0}, TREE))
        self.assertFalse(self.check(FORK, 2, (0, 2), {**HEIGHTS, (1, (0, 1), (2,)): 99}, TREE))
        self.assertFalse(self.check(FORK, 2, (0, 2), {**HEIGHTS, (0, (), (0,)): 1}, TREE))
        self.assertFalse(Guards((0, 2), {**HEIGHTS, (3, (), ()): 9}, TREE).shows(Map(*FORK), 2))

    def test_trees_that_are_none(self):
        wrong = (
            None, "price", "slow", 0, 1, (), ("price",), ("price", None), ("price", None, None, None), (PRICE,), START, {},
            Parted((1,)), {START: 5}, ("cheap", None, None), ("", None, None), (None, None, None), ("price", START, None),
            ("price", None, START), ("price", None, {}), ("price", PRICE, PRICE), ("PRICE", None, None), ("0", PRICE, PRICE),
            ("slow", None, None), ("slow", START, None), ("slow", None, FIRST[2]), ("slow", FIRST[2], START),
            ("slow", START, START), ("slow", START, FIRST), ("slow", Parted((1,)), Parted((1,))), ("slow", {}, {}),
            (0, None, None), (0, PRICE, None), (0, None, PRICE), (0, START, START), (0, {}, {}), (0, "price", "price"),
            (3, PRICE, PRICE), (-1, PRICE, PRICE), (10 ** 30, PRICE, PRICE), (PRICE, PRICE, PRICE), ({}, PRICE, PRICE),
        )
        for tree in wrong:
            self.assertFalse(self.check(FORK, 2, (0, 2), HEIGHTS, tree), tree)
            self.assertFalse(self.check(FORK, 2, (0, 2), HEIGHTS, (0, tree, SECOND)), tree)
            self.assertFalse(self.check(FORK, 2, (0, 2), HEIGHTS, (0, (2, PRICE, tree), SECOND)), tree)
            self.assertFalse(self.check(FORK, 2, (0, 2), HEIGHTS, (0, (2, PRICE, FIRST), tree)), tree)
        # Here, the only tree that is needed is right, and none of these is.
        chart = Map(*FORK._replace(most=0))
        for tree in wrong:
            self.assertFalse(Guards((), guard(chart, 2).heights, tree).shows(chart, 2), tree)
        self.assertTrue(Guards((), guard(chart, 2).heights, PRICE).shows(chart, 2))
        for head in (True, False):
            self.assertFalse(Guards((0, 2), HEIGHTS, (head, (2, PRICE, FIRST), SECOND)).shows(Map(*FORK), 2))

    def test_a_road_that_is_in_or_out_already(self):
        inner = (2, PRICE, FIRST)
        self.assertTrue(self.check(FORK, 2, (0, 2), HEIGHTS, (0, inner, SECOND)))
        self.assertTrue(self.check(FORK, 2, (0, 2), HEIGHTS, (0, (1, inner, inner), SECOND)))
        self.assertFalse(self.check(FORK, 2, (0, 2), HEIGHTS, (0, (0, inner, inner), SECOND)))
        self.assertFalse(self.check(FORK, 2, (0, 2), HEIGHTS, (0, inner, (0, SECOND, SECOND))))
        self.assertTrue(self.check(FORK, 2, (0, 2), HEIGHTS, (0, inner, (1, SECOND, ("slow", SHUT, {SHUT: 5})))))
        self.assertFalse(self.check(FORK, 2, (0, 2), HEIGHTS, (0, (2, (2, PRICE, PRICE), FIRST), SECOND)))
        for plan, bound, found in found_guards(15, 10):
            for leaf, inside, outside, path in guards_model.leaves(found.tree):
                for road in range(len(plan.roads)):
                    tree = guards_model.replaced(found.tree, path, (road, leaf, leaf))
                    shown = self.check(plan, bound, found.guarded, found.heights, tree)
                    if road in inside + outside:
                        self.assertFalse(shown)

    def test_each_inner_tree_left_out(self):
        results = []
        for plan, bound, found in found_guards(15, 11):
            inner = list(guards_model.nodes(found.tree))
            for _, path in inner:
                for tree, _ in inner[:12]:
                    changed = guards_model.replaced(found.tree, path, tree)
                    results.append(self.check(plan, bound, found.guarded, found.heights, changed))
        self.assertGreater(min(results.count(True), results.count(False)), 150)

    def test_price_leaves(self):
        cheaper = dearer = even = 0
        for plan, bound, found in found_guards(25, 12):
            price = guards_model.cost_of(plan, found.guarded)
            for _, path in guards_model.nodes(found.tree):
                changed = guards_model.replaced(found.tree, path, PRICE)
                leaf = [leaf for leaf in guards_model.leaves(changed) if leaf[3] == path][0]
                cost = guards_model.cost_of(plan, leaf[1])
                self.assertIs(self.check(plan, bound, found.guarded, found.heights, changed), cost >= price)
                cheaper, even, dearer = cheaper + (cost < price), even + (cost == price), dearer + (cost > price)
        self.assertGreater(min(cheaper, even, dearer), 20)

    def test_a_tree_that_asks_for_all_roads(self):
        for plan, bound, found in found_guards(25, 13):
            tree = self.grown(plan, bound, found, (), ())
            self.assertTrue(self.check(plan, bound, found.guarded, found.heights, tree))
            backwards = self.grown(plan, bound, found, (), (), -1)
            self.assertTrue(self.check(plan, bound, found.guarded, found.heights, backwards))

    def grown(self, plan, bound, found, inside, outside, step=1):
        """Return a tree that asks about all roads, in one order or the other."""
        rest = [road for road in range(len(plan.roads)) if road not in inside + outside][::step]
        if rest:
            return (rest[0], self.grown(plan, bound, found, inside + (rest[0],), outside, step),
                    self.grown(plan, bound, found, inside, outside + (rest[0],), step))
        if guards_model.cost_of(plan, inside) >= guards_model.cost_of(plan, found.guarded):
            return PRICE
        for state in guards_model.first_with(plan, tuple(sorted(inside))):
            reason = sure(Map(*plan), state)
            if isinstance(reason, Parted) or reason.length > bound:
                return ("slow", state, reason if isinstance(reason, Parted) else reason.levels)

    def test_nothing_but_slow(self):
        self.assertFalse(self.check(FORK, 2, (0, 2), HEIGHTS, FIRST))
        self.assertFalse(self.check(FORK, 2, (0, 2), HEIGHTS, (0, FIRST, SECOND)))
        self.assertFalse(self.check(FORK, 2, (0, 2), HEIGHTS, (0, (2, FIRST, FIRST), SECOND)))
        self.assertFalse(self.check(FORK, 2, (0, 2), HEIGHTS, SECOND))
        for plan, bound, found in found_guards(20, 14):
            # As all roads guarded are enough, "slow" alone is never a tree.
            for state in guards_model.first_with(plan, ()):
                for reason in ({state: 99}, {}, Parted(()), Parted(state[2])):
                    self.assertFalse(self.check(plan, bound, found.guarded, found.heights, ("slow", state, reason)))

    def slow_leaves(self, many, seed):
        for plan, bound, found in found_guards(many, seed):
            for leaf, inside, outside, path in guards_model.leaves(found.tree):
                if leaf[0] == "slow":
                    yield plan, bound, found, leaf, outside, path

    def test_slow_with_other_states(self):
        results = []
        for plan, bound, found, leaf, outside, path in self.slow_leaves(14, 15):
            for state in tables_model.all_states(plan)[:60]:
                changed = guards_model.replaced(found.tree, path, ("slow", state, leaf[2]))
                shown = self.check(plan, bound, found.guarded, found.heights, changed)
                results.append(shown)
                rest = tuple(road for road in range(len(plan.roads)) if road not in outside)
                if state not in guards_model.first_with(plan, rest):
                    self.assertFalse(shown)
        self.assertGreater(min(results.count(True), results.count(False)), 30)
        # A first state, but one in which a road is not known to be open that is not out.
        self.assertFalse(self.check(FORK, 2, (0, 2), HEIGHTS, (0, (2, PRICE, FIRST), ("slow", (0, (1,), (0,)), {}))))
        changed = ("slow", (0, (1,), (0,)), {(0, (1,), (0,)): 5})
        self.assertFalse(self.check(FORK, 2, (0, 2), HEIGHTS, (0, (2, PRICE, FIRST), changed)))
        self.assertFalse(self.check(FORK, 2, (0, 2), HEIGHTS, (0, (2, PRICE, ("slow", BACK, FIRST[2])), SECOND)))
        same = ("slow", (False, (True, 2), (False,)), {SHUT: 5})
        self.assertFalse(Guards((0, 2), HEIGHTS, (0, (2, PRICE, FIRST), same)).shows(Map(*FORK), 2))

    def test_slow_with_any_parted(self):
        results = []
        for plan, bound, found, leaf, outside, path in self.slow_leaves(25, 16):
            state = leaf[1]
            worlds = model.world_list(plan)
            for world in [*worlds[:8], *tables_model.parting_worlds(plan, state), (1, 0), (-1,), (0, 0), (99,)]:
                changed = guards_model.replaced(found.tree, path, ("slow", state, Parted(world)))
                shown = self.check(plan, bound, found.guarded, found.heights, changed)
                self.assertIs(shown, world in tables_model.parting_worlds(plan, state))
                results.append(shown)
        self.assertGreater(min(results.count(True), results.count(False)), 100)

    def test_slow_with_other_levels(self):
        source = Random(17)
        results = []
        for plan, bound, found, leaf, outside, path in self.slow_leaves(10, 17):
            if isinstance(leaf[2], dict):
                others = tables_model.all_states(plan)
                others = source.sample(others, min(10, len(others)))
                for levels in tables_model.changed_tables(leaf[2], others, source, 2):
                    changed = guards_model.replaced(found.tree, path, ("slow", leaf[1], levels))
                    results.append(self.check(plan, bound, found.guarded, found.heights, changed))
        self.assertGreater(min(results.count(True), results.count(False)), 150)

    def test_levels_of_the_example(self):
        for levels, shown in (
            ({START: 3, LOST: 2, BACK: 1}, True), ({START: 4, LOST: 3, BACK: 2}, True), ({START: 5, LOST: 4, BACK: 5}, True),
            ({START: 6, LOST: 5, BACK: 5}, False), ({START: 2, LOST: 1, BACK: 1}, False), ({START: 3, LOST: 1}, False),
            ({START: 3, LOST: 2}, False), ({LOST: 2, BACK: 1}, False), ({START: 3, BACK: 1}, False), ({}, False),
            ({START: 3, LOST: 2, BACK: 1, (2, (0, 1, 2), ()): 1}, False),
            ({START: 3, LOST: 2, BACK: 1, (2, (0, 1, 2), ()): 0}, True),
            ({START: 3, LOST: 2, BACK: 1, (2, (0, 1, 2), ()): -1}, True), ({START: 3, LOST: 2, BACK: 6}, False),
        ):
            tree = (0, (2, PRICE, ("slow", START, levels)), SECOND)
            self.assertIs(self.check(FORK, 2, (0, 2), HEIGHTS, tree), shown)
        wrong = {START: 3, LOST: 2, BACK: 1, (3, (), ()): 0}
        self.assertFalse(Guards((0, 2), HEIGHTS, (0, (2, PRICE, ("slow", START, wrong)), SECOND)).shows(Map(*FORK), 2))
        # Levels that grow without end tell that there may be no way, just as a Parted does.
        lost = (0, (), (0, 1))
        tree = (0, (2, PRICE, ("slow", START, Parted((2,)))), (1, ("slow", (0, (1, 2), (0,)), {}), ("slow", lost, {lost: 99})))
        self.assertFalse(self.check(WORSE, 2, (0, 2), HEIGHTS, tree))

    def test_another_bound_or_map(self):
        for plan, bound, found in found_guards(12, 18):
            for other in (bound - 1, bound + 1, bound + 5, 60):
                if not guards_model.is_too_short(plan, other) and 1 <= other <= 60:
                    self.check(plan, other, found.guarded, found.heights, found.tree)
            # With fewer roads that may be shut, some of these states would be no states of the map.
            for most in range(plan.most, 4):
                self.check(plan._replace(most=most), bound, found.guarded, found.heights, found.tree)
            for end in range(plan.places):
                if end != plan.ends[0]:
                    changed = plan._replace(ends=(plan.ends[0], end))
                    if not guards_model.is_too_short(changed, bound):
                        self.check(changed, bound, found.guarded, found.heights, found.tree)


class Limit(unittest.TestCase):
    def test_six_roads_and_more(self):
        for plan in (SIX, SIX._replace(most=0)):
            guard(Map(*plan), 6)
            for more in (((4, 5, 9),), ((3, 5, 9), (4, 5, 9))):
                chart = Map(6, tuple(sorted((*plan.roads, *more))), (0, 5), plan.most)
                for call in (guard, guard_price):
                    with self.assertRaises(TooLarge):
                        call(chart, 60)

    def test_shows_has_no_limit(self):
        roads = tuple((0, 1, length) for length in range(1, 9))
        for count in (6, 7, 8):
            chart = Map(2, roads[:count], (0, 1), 1)
            heights = {(0, tuple(road for road in range(count) if road != shut), (shut,)[:shut >= 0]): 1 + (shut == 0)
                       for shut in range(-1, count)}
            heights.update({(1, *state[1:]): 0 for state in heights})
            self.assertTrue(Guards((), heights, PRICE).shows(chart, 2))
            self.assertFalse(Guards((), heights, PRICE).shows(chart, 1))
            slow = (0, tuple(range(1, count)), (0,))
            tree = (0, PRICE, ("slow", slow, {slow: 2}))
            self.assertTrue(Guards((0,), heights, tree).shows(chart, 1))
            self.assertFalse(Guards((1,), heights, tree).shows(chart, 1))

    def test_too_short_comes_ahead_of_too_large(self):
        chart = Map(2, tuple((0, 1, length) for length in range(2, 9)), (0, 1), 0)
        for call in (guard, guard_price):
            with self.assertRaises(TooShort):
                call(chart, 1)
            with self.assertRaises(TooLarge):
                call(chart, 2)
            with self.assertRaises(TooShort):
                call(Map(3, chart.roads, (0, 2), 0), 60)

    def test_the_greatest_maps(self):
        source = Random(19)
        greatest = 0
        for _ in range(60):
            places = source.randint(2, 6)
            triples = set()
            while len(triples) < 6:
                triples.add((*sorted(source.sample(range(places), 2)), source.randint(1, 9)))
            chart = Map(places, tuple(sorted(triples)), tuple(source.sample(range(places), 2)), 3)
            length = open_length(chart, ())
            if length is not None:
                for bound in (length, min(60, length + 6)):
                    begin = time.perf_counter()
                    self.assertTrue(guard(chart, bound).shows(chart, bound))
                    greatest = max(greatest, time.perf_counter() - begin)
        self.assertLess(greatest, 3)


class Errors(unittest.TestCase):
    def calls(self):
        return (guard, guard_price, Guards((0, 2), HEIGHTS, TREE).shows, Guards((), {}, None).shows)

    def test_no_map(self):
        for call in self.calls():
            for chart in (*OTHER_KINDS, 3, FORK, ()):
                for bound in (2, 0, None, True):
                    with self.subTest(chart=chart), self.assertRaises(BadMap) as caught:
                        call(chart, bound)
                    self.assertIsNone(caught.exception.part)

    def test_no_bound(self):
        eight = Map(2, tuple((0, 1, length) for length in range(2, 10)), (0, 1), 0)
        for call in self.calls():
            for bound in NO_BOUNDS:
                # In these, all bounds are too short, or the map is too large: this is looked at later.
                for chart in (Map(*FORK), Map(3, ((0, 1, 1),), (0, 2), 0), eight):
                    with self.subTest(bound=bound), self.assertRaises(BadBound):
                        call(chart, bound)

    def test_too_short(self):
        for call in self.calls():
            for chart, bound in ((Map(*FORK), 1), (Map(*WORSE), 1), (Map(2, ((0, 1, 9),), (0, 1), 1), 8),
                                 (Map(3, ((0, 1, 1),), (0, 2), 1), 60)):
                with self.assertRaises(TooShort):
                    call(chart, bound)


if __name__ == "__main__":
    unittest.main()
