import unittest

import model
from model import BY_HAND, FORK, OTHER_KINDS, Plan
from shutroads.errors import BadMap, BadState, BadWorld, RoadError
from shutroads.maps import Map, open_length, worlds

FORK_ROADS = FORK.roads


class MapTest(unittest.TestCase):
    def assert_part(self, part, *wanted):
        with self.subTest(wanted=wanted):
            with self.assertRaises(BadMap) as caught:
                Map(*wanted)
            self.assertEqual(caught.exception.part, part)


class Properties(MapTest):
    def test_a_map_has_its_parameters(self):
        for plan in model.all_plans():
            chart = Map(*plan)
            self.assertEqual((chart.places, chart.roads, chart.ends, chart.most), plan)
            self.assertEqual(len(chart), len(plan.roads))

    def test_parameters_may_be_named(self):
        chart = Map(most=1, ends=(0, 2), roads=FORK_ROADS, places=3)
        self.assertEqual(chart, Map(*FORK))

    def test_properties_and_length_are_defined_in_the_class_itself(self):
        for name in ("places", "roads", "ends", "most"):
            self.assertIsInstance(vars(Map)[name], property)
        self.assertIn("__len__", vars(Map))
        self.assertIn("__eq__", vars(Map))
        self.assertEqual({found.__module__ for found in (Map, worlds, open_length)}, {"shutroads.maps"})

    def test_a_map_never_changes(self):
        chart = Map(*FORK)
        for name in ("places", "roads", "ends", "most"):
            with self.assertRaises(AttributeError):
                setattr(chart, name, getattr(Map(*FORK), name))
        worlds(chart).append((0, 1, 2))
        open_length(chart, (1,))
        self.assertEqual((chart.places, chart.roads, chart.ends, chart.most), FORK)

    def test_a_map_keeps_nothing_that_can_change(self):
        for plan in BY_HAND:
            chart = Map(*plan)
            self.assertIs(type(chart.roads), tuple)
            self.assertIs(type(chart.ends), tuple)
            self.assertTrue(all(type(triple) is tuple for triple in chart.roads))
            numbers = [chart.places, chart.most, *chart.ends, *[part for triple in chart.roads for part in triple]]
            self.assertTrue(all(type(number) is int for number in numbers))

    def test_a_refused_call_changes_nothing(self):
        roads, ends = [(0, 1, 1)], [0, 1]
        self.assert_part("ROADS", 2, roads, ends, 0)
        self.assertEqual((roads, ends), ([(0, 1, 1)], [0, 1]))


class Equality(unittest.TestCase):
    def test_maps_are_equal_if_all_four_parameters_are(self):
        plans = [FORK, FORK._replace(places=4), FORK._replace(roads=FORK_ROADS[:2]), FORK._replace(ends=(0, 1)),
                 FORK._replace(ends=(2, 0)), FORK._replace(most=2), FORK._replace(roads=((0, 1, 2), *FORK_ROADS[1:]))]
        for left in plans:
            for right in plans:
                self.assertIs(Map(*left) == Map(*right), left == right)
                self.assertIs(Map(*left) != Map(*right), left != right)

    def test_a_map_equals_itself(self):
        chart = Map(*FORK)
        self.assertTrue(chart == chart)
        self.assertFalse(chart != chart)

    def test_objects_of_other_classes_are_not_equal(self):
        chart = Map(*FORK)
        for other in (BadMap(None), BadState("no state"), RoadError("no")):
            self.assertIs(chart == other, False)
            self.assertIs(other == chart, False)
            self.assertIs(chart != other, True)
            self.assertIs(other != chart, True)


class Places(MapTest):
    def test_the_least_and_the_greatest_number(self):
        self.assertEqual(Map(2, ((0, 1, 1),), (0, 1), 0).places, 2)
        self.assertEqual(Map(6, ((0, 5, 1),), (0, 5), 0).places, 6)

    def test_one_less_and_one_more(self):
        for places in (1, 7, 0, -2, -6, 10 ** 30, -10 ** 30):
            self.assert_part("PLACES", places, ((0, 1, 1),), (0, 1), 0)

    def test_other_kinds(self):
        for places in (*OTHER_KINDS, (), (3,)):
            self.assert_part("PLACES", places, ((0, 1, 1),), (0, 1), 0)


class Roads(MapTest):
    def test_the_least_and_the_greatest_number(self):
        many = tuple((0, 1, length) for length in range(1, 10))
        self.assertEqual(len(Map(2, many[:1], (0, 1), 0)), 1)
        self.assertEqual(len(Map(2, many[:8], (0, 1), 0)), 8)
        self.assert_part("ROADS", 2, many, (0, 1), 0)
        self.assert_part("ROADS", 2, (), (0, 1), 0)

    def test_the_least_and_the_greatest_length(self):
        self.assertEqual(Map(2, ((0, 1, 1), (0, 1, 9)), (0, 1), 0).roads, ((0, 1, 1), (0, 1, 9)))
        for length in (0, 10, -1, 10 ** 30, *OTHER_KINDS, (), (1,)):
            self.assert_part("ROADS", 2, ((0, 1, length),), (0, 1), 0)

    def test_the_places_of_a_road(self):
        for first, second in ((1, 0), (0, 0), (1, 1), (-1, 1), (0, 3), (3, 4), (2, 3), (-2, -1), (0, -1)):
            self.assert_part("ROADS", 3, ((first, second, 1),), (0, 1), 0)
        self.assertEqual(Map(3, ((1, 2, 1),), (0, 1), 0).roads, ((1, 2, 1),))
        for kind in (*OTHER_KINDS, (), (1,)):
            self.assert_part("ROADS", 3, ((kind, 2, 1),), (0, 1), 0)
            self.assert_part("ROADS", 3, ((0, kind, 1),), (0, 1), 0)

    def test_roads_are_ascending_and_none_is_there_twice(self):
        self.assert_part("ROADS", 3, ((0, 2, 1), (0, 1, 1)), (0, 1), 0)
        self.assert_part("ROADS", 3, ((0, 1, 2), (0, 1, 1)), (0, 1), 0)
        self.assert_part("ROADS", 3, ((1, 2, 1), (0, 2, 1)), (0, 1), 0)
        self.assert_part("ROADS", 3, ((0, 1, 1), (0, 1, 1)), (0, 1), 0)
        self.assert_part("ROADS", 3, ((0, 1, 1), (0, 2, 1), (0, 2, 1), (1, 2, 1)), (0, 1), 0)

    def test_each_road_is_a_triple(self):
        for triple in (*OTHER_KINDS, 0, (), (0,), (0, 1), (0, 1, 1, 1), [0, 1, 1], "011", ((0, 1, 1),)):
            self.assert_part("ROADS", 2, (triple,), (0, 1), 0)
            self.assert_part("ROADS", 3, ((0, 1, 1), triple), (0, 1), 0)

    def test_roads_are_a_tuple(self):
        for roads in (*OTHER_KINDS, 1, [(0, 1, 1)], {(0, 1, 1): True}, {(0, 1, 1)}, iter([(0, 1, 1)]), (0, 1, 1)):
            self.assert_part("ROADS", 2, roads, (0, 1), 0)


class Ends(MapTest):
    def test_ends_are_two_different_places(self):
        for ends in ((0, 0), (1, 1), (0, 3), (3, 0), (-1, 0), (0, -1), (0, 10 ** 30)):
            self.assert_part("ENDS", 3, FORK_ROADS, ends, 0)
        for ends in ((0, 1), (1, 0), (0, 2), (2, 0), (1, 2), (2, 1)):
            self.assertEqual(Map(3, FORK_ROADS, ends, 0).ends, ends)

    def test_ends_are_a_pair(self):
        for ends in (*OTHER_KINDS, 1, (), (0,), (0, 1, 2), [0, 1], "01", ((0, 1),)):
            self.assert_part("ENDS", 3, FORK_ROADS, ends, 0)

    def test_ends_are_integers(self):
        for kind in (*OTHER_KINDS, (), (1,)):
            self.assert_part("ENDS", 3, FORK_ROADS, (kind, 2), 0)
            self.assert_part("ENDS", 3, FORK_ROADS, (2, kind), 0)


class Most(MapTest):
    def test_the_least_and_the_greatest_number(self):
        for most in (0, 1, 2, 3):
            self.assertEqual(Map(2, ((0, 1, 1),), (0, 1), most).most, most)
        for most in (-1, 4, 10 ** 30, *OTHER_KINDS, (), (1,)):
            self.assert_part("MOST", 2, ((0, 1, 1),), (0, 1), most)


class TheFirstPart(MapTest):
    def test_the_first_part_that_is_wrong_is_named(self):
        right, wrong = (3, FORK_ROADS, (0, 2), 1), (1, (), (0, 0), 4)
        names = ("PLACES", "ROADS", "ENDS", "MOST")
        for choice in range(1, 16):
            wanted = [wrong[at] if choice >> at & 1 else right[at] for at in range(4)]
            part = next(names[at] for at in range(4) if choice >> at & 1)
            self.assert_part(part, *wanted)


class Worlds(unittest.TestCase):
    def test_the_example(self):
        chart = Map(*FORK)
        self.assertEqual(worlds(chart), [(), (0,), (1,), (2,)])
        self.assertEqual([open_length(chart, world) for world in worlds(chart)], [2, 5, 2, 5])

    def test_worlds_are_ordered_by_lengths_then_as_tuples(self):
        chart = Map(*FORK._replace(most=3))
        self.assertEqual(worlds(chart), [(), (0,), (1,), (2,), (0, 1), (0, 2), (1, 2), (0, 1, 2)])
        self.assertEqual(worlds(Map(*FORK._replace(most=0))), [()])

    def test_more_may_be_shut_than_there_are_roads(self):
        self.assertEqual(worlds(Map(2, ((0, 1, 9),), (1, 0), 3)), [(), (0,)])

    def test_worlds_against_the_model(self):
        for plan in model.all_plans():
            self.assertEqual(worlds(Map(*plan)), model.world_list(plan))

    def test_the_list_is_new_each_time(self):
        chart = Map(*FORK)
        found = worlds(chart)
        found.clear()
        self.assertEqual(worlds(chart), [(), (0,), (1,), (2,)])
        self.assertIs(type(worlds(chart)), list)

    def test_no_map(self):
        for chart in (*OTHER_KINDS, 3, FORK, tuple(FORK), Map, ()):
            with self.subTest(chart=chart), self.assertRaises(BadMap) as caught:
                worlds(chart)
            self.assertIsNone(caught.exception.part)


class OpenLength(unittest.TestCase):
    def test_against_the_model_in_all_worlds(self):
        for plan in model.all_plans():
            chart = Map(*plan)
            found = [open_length(chart, world) for world in worlds(chart)]
            self.assertEqual(found, [model.shortest(plan, world) for world in model.world_list(plan)])

    def test_no_way(self):
        self.assertIsNone(open_length(Map(2, ((0, 1, 9),), (1, 0), 1), (0,)))
        self.assertIsNone(open_length(Map(3, ((0, 1, 9),), (0, 2), 1), ()))
        self.assertEqual(open_length(Map(2, ((0, 1, 9),), (1, 0), 1), ()), 9)

    def test_the_way_may_be_long(self):
        chain = Plan(6, tuple((place, place + 1, 9) for place in range(5)), (0, 5), 3)
        self.assertEqual(open_length(Map(*chain), ()), 45)
        self.assertEqual(open_length(Map(*chain._replace(ends=(5, 0))), ()), 45)
        crossed = Plan(6, ((0, 3, 1), (1, 2, 1), (1, 4, 1), (2, 5, 1), (3, 4, 1)), (0, 5), 1)
        self.assertEqual(open_length(Map(*crossed), ()), 5)
        self.assertEqual(open_length(Map(*crossed._replace(ends=(5, 0))), ()), 5)

    def test_more_roads_may_be_shorter_than_one(self):
        self.assertEqual(open_length(Map(3, ((0, 1, 4), (0, 2, 9), (1, 2, 4)), (0, 2), 1), ()), 8)
        self.assertEqual(open_length(Map(2, ((0, 1, 3), (0, 1, 8)), (0, 1), 1), (0,)), 8)

    def test_no_world(self):
        chart = Map(*FORK._replace(most=2))
        wrong = [(0, 1, 2), (1, 0), (0, 0), (-1,), (3,), (0, 3), (True,), (False,), (0, True), ("0",), (None,), ([],),
                 ((0,),), ((),), [], [0], [0, 1], 0, 1, "0", *OTHER_KINDS]
        for world in wrong:
            with self.subTest(world=world), self.assertRaises(BadWorld):
                open_length(chart, world)
        for world in ((), (0,), (0, 1), (1, 2)):
            open_length(chart, world)

    def test_most_limits_a_world(self):
        for most in range(4):
            chart = Map(2, tuple((0, 1, length) for length in range(1, 7)), (0, 1), most)
            self.assertEqual(open_length(chart, tuple(range(most))), most + 1)
            with self.assertRaises(BadWorld):
                open_length(chart, tuple(range(most + 1)))

    def test_the_map_is_checked_first(self):
        for chart in (*OTHER_KINDS, 3, FORK, ()):
            for world in ((), (7,), None, [0]):
                with self.subTest(chart=chart), self.assertRaises(BadMap) as caught:
                    open_length(chart, world)
                self.assertIsNone(caught.exception.part)


if __name__ == "__main__":
    unittest.main()
