import unittest
from random import Random

import model
from model import FORK, OTHER_KINDS, Plan
from shutroads.errors import BadMap, BadRoad, BadState
from shutroads.maps import Map, open_length, worlds
from shutroads.walks import first_states, results, ways

START = (0, (0, 1), ())


class Example(unittest.TestCase):
    def test_the_example_of_the_document(self):
        fork = Map(3, ((0, 1, 1), (0, 2, 5), (1, 2, 1)), (0, 2), 1)
        start = (0, (0, 1), ())
        found = [worlds(fork), [open_length(fork, world) for world in worlds(fork)], first_states(fork),
                 ways(fork, start), results(fork, start, 0)]
        self.assertEqual(found, [
            [(), (0,), (1,), (2,)], [2, 5, 2, 5],
            [(0, (0, 1), ()), (0, (1,), (0,)), (0, (0,), (1,))], [0, 1],
            [(1, (0, 1, 2), ()), (1, (0, 1), (2,))],
        ])

    def test_functions_are_defined_in_their_file(self):
        self.assertEqual({found.__module__ for found in (first_states, ways, results)}, {"shutroads.walks"})


class FirstStates(unittest.TestCase):
    def test_against_the_model(self):
        for plan in model.all_plans():
            self.assertEqual(first_states(Map(*plan)), model.first(plan))

    def test_they_are_ordered_by_the_shut_roads_as_worlds_are(self):
        chart = Map(2, ((0, 1, 1), (0, 1, 2), (0, 1, 3)), (1, 0), 2)
        self.assertEqual(first_states(chart), [
            (1, (0, 1, 2), ()), (1, (1, 2), (0,)), (1, (0, 2), (1,)), (1, (0, 1), (2,)), (1, (2,), (0, 1)),
            (1, (1,), (0, 2)), (1, (0,), (1, 2)),
        ])

    def test_a_beginning_without_a_road(self):
        self.assertEqual(first_states(Map(3, ((1, 2, 1),), (0, 2), 3)), [(0, (), ())])

    def test_all_roads_may_be_shut(self):
        self.assertEqual(first_states(Map(2, ((0, 1, 1),), (0, 1), 3)), [(0, (0,), ()), (0, (), (0,))])
        self.assertEqual(first_states(Map(2, ((0, 1, 1),), (0, 1), 0)), [(0, (0,), ())])

    def test_no_map(self):
        for chart in (*OTHER_KINDS, 3, FORK, ()):
            with self.subTest(chart=chart), self.assertRaises(BadMap) as caught:
                first_states(chart)
            self.assertIsNone(caught.exception.part)


class Walks(unittest.TestCase):
    def follow(self, plan, world, source):
        """Walk in a world, compare all that can be found on the way with the model, and return the states."""
        chart = Map(*plan)
        state = model.looked_around(plan, plan.ends[0], (), (), world)
        self.assertIn(state, first_states(chart))
        walked = [state]
        for _ in range(9):
            roads = ways(chart, state)
            self.assertEqual(roads, model.way_list(plan, state))
            for road in roads:
                self.assertEqual(results(chart, state, road), model.result_list(plan, state, road))
            if not roads:
                break
            road = source.choice(roads)
            after = model.looked_around(plan, model.beyond(plan, road, state[0]), state[1], state[2], world)
            self.assertIn(after, results(chart, state, road))
            state = after
            walked.append(state)
        return walked

    def test_whole_walks_against_the_model(self):
        source = Random(3)
        from_goal = taken_back = 0
        for plan in model.all_plans():
            all_worlds = model.world_list(plan)
            for world in source.sample(all_worlds, min(4, len(all_worlds))):
                places = [state[0] for state in self.follow(plan, world, source)]
                from_goal += plan.ends[1] in places[:-1]
                taken_back += any(place == after for place, after in zip(places, places[2:]))
        # The walks must really do this, or the comparison says nothing of it.
        self.assertGreater(from_goal, 50)
        self.assertGreater(taken_back, 50)

    def test_a_road_taken_back_tells_nothing_new(self):
        fork = Map(*FORK)
        self.assertEqual(results(fork, (1, (0, 1), (2,)), 0), [(0, (0, 1), (2,))])
        self.assertEqual(results(fork, (1, (0, 1, 2), ()), 0), [(0, (0, 1, 2), ())])

    def test_a_road_taken_from_the_goal(self):
        fork = Map(*FORK)
        self.assertEqual(ways(fork, (2, (0, 1, 2), ())), [1, 2])
        self.assertEqual(results(fork, (2, (0, 1, 2), ()), 2), [(1, (0, 1, 2), ())])
        self.assertEqual(results(fork, (2, (1, 2), ()), 2), [(1, (0, 1, 2), ()), (1, (1, 2), (0,))])

    def test_results_are_ordered_by_the_new_shut_roads_as_worlds_are(self):
        chart = Map(3, ((0, 1, 1), (0, 2, 1), (1, 2, 1), (1, 2, 2)), (0, 2), 2)
        self.assertEqual(results(chart, (0, (0, 1), ()), 0), [
            (1, (0, 1, 2, 3), ()), (1, (0, 1, 3), (2,)), (1, (0, 1, 2), (3,)), (1, (0, 1), (2, 3)),
        ])

    def test_new_roads_are_put_among_the_known_ones(self):
        chart = Map(4, ((0, 1, 1), (0, 2, 1), (1, 3, 1), (2, 3, 1)), (3, 0), 2)
        self.assertEqual(results(chart, (3, (2,), (3,)), 2), [(1, (0, 2), (3,)), (1, (2,), (0, 3))])
        self.assertEqual(results(chart, (3, (2, 3), ()), 2), [(1, (0, 2, 3), ()), (1, (2, 3), (0,))])

    def test_most_limits_how_many_roads_are_shut(self):
        roads = ((0, 1, 1), (0, 1, 2), (1, 2, 1), (1, 2, 2), (1, 2, 3))
        for most, many in ((0, [1]), (1, [4, 1]), (2, [7, 4]), (3, [8, 7])):
            chart = Map(3, roads, (0, 2), most)
            found = [len(results(chart, state, 0)) for state in ((0, (0, 1), ()), (0, (0,), (1,)))[:1 + (most > 0)]]
            self.assertEqual(found, many[:len(found)])
            for state in results(chart, (0, (0, 1), ()), 0):
                self.assertLessEqual(len(state[2]), most)

    def test_all_shut_roads_are_known(self):
        chart = Map(3, ((0, 1, 1), (0, 1, 2), (1, 2, 1), (1, 2, 2)), (0, 2), 1)
        self.assertEqual(results(chart, (0, (1,), (0,)), 1), [(1, (1, 2, 3), (0,))])

    def test_no_road_is_open(self):
        self.assertEqual(ways(Map(2, ((0, 1, 1),), (0, 1), 1), (0, (), (0,))), [])
        self.assertEqual(ways(Map(3, ((0, 1, 1),), (0, 1), 1), (2, (), ())), [])
        self.assertEqual(ways(Map(3, ((0, 1, 1),), (0, 1), 1), (2, (0,), ())), [])

    def test_a_state_need_not_come_about(self):
        chart = Map(4, ((0, 1, 1), (1, 2, 1), (2, 3, 1)), (0, 3), 2)
        self.assertEqual(ways(chart, (3, (0, 2), ())), [2])
        self.assertEqual(results(chart, (3, (2,), (0,)), 2), [(2, (1, 2), (0,)), (2, (2,), (0, 1))])


class Lists(unittest.TestCase):
    def test_lists_are_new_each_time(self):
        fork = Map(*FORK)
        for call in (lambda: first_states(fork), lambda: ways(fork, START), lambda: results(fork, START, 0)):
            found = call()
            kept = list(found)
            self.assertIs(type(found), list)
            found.clear()
            self.assertEqual(call(), kept)
            self.assertTrue(kept)

    def test_states_are_tuples_throughout(self):
        fork = Map(*FORK)
        for state in [*first_states(fork), *results(fork, START, 0)]:
            self.assertEqual([type(part) for part in state], [int, tuple, tuple])
            self.assertIs(type(state), tuple)

    def test_arguments_are_not_changed(self):
        fork = Map(*FORK)
        state = (0, (0, 1), ())
        ways(fork, state)
        results(fork, state, 1)
        self.assertEqual(state, (0, (0, 1), ()))
        self.assertEqual((fork.places, fork.roads, fork.ends, fork.most), FORK)


class WrongStates(unittest.TestCase):
    def refuse(self, chart, *states):
        for state in states:
            with self.subTest(state=state):
                with self.assertRaises(BadState):
                    ways(chart, state)
                with self.assertRaises(BadState):
                    results(chart, state, 0)

    def test_a_state_is_a_triple(self):
        self.refuse(Map(*FORK), *OTHER_KINDS, 0, (), (0,), (0, (0, 1)), (0, (0, 1), (), ()), [0, (0, 1), ()], "012")

    def test_the_place(self):
        chart = Map(3, ((0, 1, 1),), (0, 1), 1)
        self.assertEqual(ways(chart, (1, (0,), ())), [0])
        self.refuse(chart, *[(place, (0,), ()) for place in (-1, 3, 10 ** 30, *OTHER_KINDS, (), (0,))])

    def test_both_are_ascending_tuples_of_roads(self):
        chart = Map(4, ((0, 1, 1), (0, 2, 1), (1, 2, 1), (1, 2, 2)), (0, 2), 3)
        self.assertEqual(ways(chart, (0, (0, 1, 2), (3,))), [0, 1])
        self.assertEqual(ways(chart, (3, (), ())), [])
        for wrong in (*OTHER_KINDS, 0, (1, 0), (0, 0), (-1,), (4,), (0, 4), (True,), (False,), (0, True), ("0",), (None,),
                      ([],), ((0,),), ((),), [1], (10 ** 30,)):
            self.refuse(chart, (3, wrong, ()), (3, (), wrong))

    def test_tuples_that_are_not_ascending_though_all_roads_are_seen(self):
        chart = Map(2, ((0, 1, 1), (0, 1, 2), (0, 1, 3)), (0, 1), 3)
        self.assertEqual(ways(chart, (0, (0, 1), (2,))), [0, 1])
        self.refuse(chart, (0, (1, 0), (2,)), (0, (0, 0, 1), (2,)), (0, (0,), (2, 1)), (0, (0, 1), (2, 2)),
                    (0, (0, True), (2,)), (0, (False, 1), (2,)), (0, [0, 1], (2,)), (0, (0, 1), [2]), (0, (0, 1, 3), (2,)))

    def test_no_road_is_in_both(self):
        chart = Map(4, ((0, 1, 1), (1, 2, 1)), (0, 2), 2)
        self.refuse(chart, (0, (0,), (0,)), (0, (0, 1), (1,)), (3, (0,), (0,)), (3, (0, 1), (0, 1)))
        self.assertEqual(ways(chart, (0, (0,), (1,))), [0])

    def test_each_road_at_the_place_is_in_one(self):
        chart = Map(3, ((0, 1, 1), (0, 2, 1), (1, 2, 1)), (0, 2), 2)
        self.refuse(chart, (0, (), ()), (0, (0,), ()), (0, (1,), ()), (0, (), (0,)), (0, (2,), (1,)), (1, (0, 1), ()),
                    (2, (0, 1), ()))
        self.assertEqual(ways(chart, (0, (), (0, 1))), [])

    def test_at_most_so_many_roads_are_shut(self):
        roads = tuple((0, 1, length) for length in range(1, 6))
        for most in range(4):
            chart = Map(3, roads, (0, 1), most)
            shut, more = tuple(range(most)), tuple(range(most + 1))
            self.assertEqual(ways(chart, (0, tuple(range(most, 5)), shut)), list(range(most, 5)))
            self.refuse(chart, (0, tuple(range(most + 1, 5)), more), (2, (), more))

    def test_all_states_of_a_small_map(self):
        plan = Plan(3, ((0, 1, 1), (0, 2, 5), (1, 2, 1)), (0, 2), 1)
        chart = Map(*plan)
        some = model.subsets(range(3))
        for place in range(3):
            for clear in some:
                for shut in some:
                    right = (len(shut) <= 1 and not set(clear) & set(shut)
                             and set(model.touching(plan, place)) <= set(clear + shut))
                    if right:
                        self.assertEqual(ways(chart, (place, clear, shut)), model.way_list(plan, (place, clear, shut)))
                    else:
                        self.refuse(chart, (place, clear, shut))


class WrongRoads(unittest.TestCase):
    def refuse(self, chart, state, *roads):
        for road in roads:
            with self.subTest(road=road), self.assertRaises(BadRoad):
                results(chart, state, road)

    def test_a_road_that_is_not_at_the_place(self):
        self.refuse(Map(*FORK), START, 2)
        self.refuse(Map(*FORK), (0, (0, 1, 2), ()), 2)

    def test_a_road_that_is_shut(self):
        self.refuse(Map(*FORK), (0, (1,), (0,)), 0)
        self.refuse(Map(*FORK), (0, (0,), (1,)), 1)

    def test_no_road_of_the_map(self):
        self.refuse(Map(*FORK), START, -1, -2, -3, 3, 10 ** 30, *OTHER_KINDS, (), (0,))

    def test_booleans_are_no_roads(self):
        self.refuse(Map(*FORK), START, True, False)


class OrderOfErrors(unittest.TestCase):
    def test_the_map_is_checked_first(self):
        for chart in (*OTHER_KINDS, 3, FORK, ()):
            for state in (START, None, [0]):
                with self.subTest(chart=chart):
                    with self.assertRaises(BadMap) as caught:
                        ways(chart, state)
                    self.assertIsNone(caught.exception.part)
                    for road in (0, 2, None):
                        with self.assertRaises(BadMap) as caught:
                            results(chart, state, road)
                        self.assertIsNone(caught.exception.part)

    def test_then_the_state(self):
        for road in (-1, 2, 3, None, True, "0"):
            with self.assertRaises(BadState):
                results(Map(*FORK), (0, (0,), ()), road)


if __name__ == "__main__":
    unittest.main()
