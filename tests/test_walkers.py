import time
import unittest
from random import Random

import model
import walkers_model
from model import FORK, OTHER_KINDS, Plan
from shutroads.errors import BadMap, BadRule, BadWorld
from shutroads.maps import Map, worlds
from shutroads.walkers import RULES, best_rules, walk, walked, worst

WORSE = FORK._replace(most=2)
# Here, "known" takes the longer one of two ways at place 3, as it does not see that the other one leads to the goal.
LATE = Plan(6, ((0, 1, 1), (0, 2, 2), (1, 3, 1), (2, 5, 2), (3, 4, 1), (3, 5, 9), (4, 5, 1)), (0, 5), 0)
NO_RULES = ("Near", "near ", "nea", "few\n", "", "known known", b"near", ("near",), ["near"], {"near": True}, 0, 1, (),
            *OTHER_KINDS)


def drawn(many, seed, most_roads=8):
    source = Random(seed)
    for _ in range(many):
        plan = model.random_plan(source)
        if len(plan.roads) <= most_roads:
            yield plan


class Example(unittest.TestCase):
    def test_the_example_of_the_document(self):
        fork = Map(3, ((0, 1, 1), (0, 2, 5), (1, 2, 1)), (0, 2), 1)
        walks = [walk(fork, (2,), 'near'), walk(fork, (), 'few'),
                 [walked(fork, (2,), rule) for rule in ('near', 'few', 'known')],
                 [worst(fork, rule) for rule in ('near', 'few', 'known')], best_rules(fork)]
        self.assertEqual(walks, [[0, 0, 1], [1], [7, 5, 5], [(7, (2,)), (5, ()), (5, ())], ['few', 'known']])

    def test_all_is_defined_in_its_file(self):
        self.assertEqual({found.__module__ for found in (walk, walked, worst, best_rules)}, {"shutroads.walkers"})

    def test_the_rules(self):
        self.assertEqual(RULES, ("near", "few", "known"))
        self.assertIs(type(RULES), tuple)


class Walks(unittest.TestCase):
    def test_against_the_model_in_all_worlds(self):
        seen = {"arrives": 0, "stays": 0, "stays at once": 0, "twice": 0, "fewer": 0, "known": 0}
        for plan in [*model.BY_HAND, *drawn(300, 1)]:
            chart = Map(*plan)
            for world in model.world_list(plan):
                walks = []
                for rule in RULES:
                    taken, states = walkers_model.walk(plan, world, rule)
                    self.assertEqual(walk(chart, world, rule), taken)
                    arrives = states[-1][0] == plan.ends[1]
                    wanted = walkers_model.length_of(plan, taken) if arrives else None
                    self.assertEqual(walked(chart, world, rule), wanted)
                    seen["arrives"] += arrives
                    seen["stays"] += not arrives and bool(taken)
                    seen["stays at once"] += not arrives and not taken
                    seen["twice"] += arrives and len(set(taken)) < len(taken)
                    walks.append(taken)
                seen["fewer"] += walks[1] != walks[0]
                seen["known"] += walks[2] != walks[0]
        # All of this must really be there, or the comparison says nothing of it.
        self.assertGreater(min(seen.values()), 50)

    def test_ties_are_broken_by_the_least_road(self):
        chart = Map(4, ((0, 1, 2), (0, 2, 1), (0, 3, 3), (1, 3, 1), (2, 3, 2)), (0, 3), 2)
        self.assertEqual([walk(chart, (), rule) for rule in RULES], [[0, 3], [2], [2]])
        self.assertEqual(walk(chart, (0,), "near"), [1, 4])
        self.assertEqual(walk(chart, (2,), "few"), [0, 3])
        self.assertEqual(walk(chart, (0, 2), "few"), [1, 4])
        same = Map(2, ((0, 1, 4), (0, 1, 5)), (1, 0), 1)
        self.assertEqual([walk(same, (), rule) for rule in RULES], [[0], [0], [0]])
        self.assertEqual([walk(same, (0,), rule) for rule in RULES], [[1], [1], [1]])
        turned = Map(3, ((0, 1, 9), (0, 2, 1), (1, 2, 1)), (1, 0), 1)
        self.assertEqual([walk(turned, (), rule) for rule in RULES], [[2, 1], [0], [0]])
        # Of roads that are as long and as few, the least one, also where another one leads to a lesser place.
        self.assertEqual(walk(Map(4, ((0, 1, 1), (0, 3, 1), (1, 2, 1), (2, 3, 1)), (2, 0), 0), (), "few"), [2, 0])

    def test_few_counts_roads_and_near_their_lengths(self):
        chart = Map(3, ((0, 1, 1), (0, 2, 9), (1, 2, 1)), (0, 2), 0)
        self.assertEqual([walk(chart, (), rule) for rule in RULES], [[0, 2], [1], [1]])
        # Of two parallel roads, the shorter one counts for "near", and the first one for "few".
        self.assertEqual([walk(Map(2, ((0, 1, 2), (0, 1, 7)), (0, 1), 1), (0,), rule) for rule in RULES], [[1]] * 3)

    def test_a_walker_does_not_know_what_it_has_not_seen(self):
        chart = Map(*FORK)
        self.assertEqual(walk(chart, (2,), "near"), [0, 0, 1])
        self.assertEqual(walk(chart, (1,), "near"), [0, 2])
        self.assertEqual(walk(chart, (1,), "known"), [0, 2])
        self.assertEqual(walk(chart, (0,), "near"), [1])

    def test_known_goes_where_it_knows_a_way(self):
        chart = Map(4, ((0, 1, 1), (0, 2, 9), (1, 2, 9), (1, 3, 1), (2, 3, 1)), (0, 3), 1)
        # At first, no road has such a rest, so it goes as "near" does.
        self.assertEqual(walk(chart, (), "known"), [0, 3])
        # Then it sees that the last road is shut, and knows of no way either; both go on to the next place.
        self.assertEqual([walk(chart, (3,), rule) for rule in RULES], [[0, 2, 4], [0, 2, 4], [0, 2, 4]])
        longer = Map(3, ((0, 1, 1), (0, 2, 9), (1, 2, 1)), (0, 2), 1)
        self.assertEqual([walk(longer, (), rule) for rule in RULES], [[0, 2], [1], [1]])
        # As long as it knows of no way, it goes back as "near" does.
        back = Map(4, ((0, 1, 1), (0, 2, 3), (1, 3, 1), (2, 3, 1)), (0, 3), 2)
        self.assertEqual(walk(back, (2,), "known"), [0, 0, 1, 3])

    def test_where_the_walker_stays(self):
        for rule in RULES:
            self.assertEqual(walk(Map(2, ((0, 1, 1),), (0, 1), 1), (0,), rule), [])
            self.assertIsNone(walked(Map(2, ((0, 1, 1),), (0, 1), 1), (0,), rule))
            # No road at all, and an open road that leads nowhere.
            self.assertEqual(walk(Map(3, ((1, 2, 1),), (0, 2), 0), (), rule), [])
            self.assertEqual(walk(Map(3, ((0, 1, 1),), (0, 2), 0), (), rule), [])
            self.assertIsNone(walked(Map(3, ((0, 1, 1),), (0, 2), 0), (), rule))
            # It sees this only after a road.
            self.assertEqual(walk(Map(3, ((0, 1, 1), (1, 2, 1)), (0, 2), 1), (1,), rule), [0])
            self.assertIsNone(walked(Map(3, ((0, 1, 1), (1, 2, 1)), (0, 2), 1), (1,), rule))

    def test_it_stays_at_the_goal(self):
        for rule in RULES:
            self.assertEqual(walk(Map(3, ((0, 1, 1), (1, 2, 1)), (0, 1), 1), (), rule), [0])

    def test_lists_are_new_each_time(self):
        chart = Map(*FORK)
        for call in (lambda: walk(chart, (2,), "near"), lambda: best_rules(chart)):
            found = call()
            kept = list(found)
            self.assertIs(type(found), list)
            found.clear()
            self.assertEqual(call(), kept)
        self.assertIs(type(worst(chart, "near")), tuple)


class Worst(unittest.TestCase):
    def test_against_the_model(self):
        seen = {"none": 0, "some": 0, "all": 0, "later": 0}
        for plan in [*model.BY_HAND, *drawn(150, 2, 6)]:
            chart = Map(*plan)
            for rule in RULES:
                found = worst(chart, rule)
                self.assertEqual(found, walkers_model.worst(plan, rule))
                arrived = [walked(chart, world, rule) is not None for world in worlds(chart)]
                seen["none" if not any(arrived) else "all" if all(arrived) else "some"] += 1
                lengths = [walked(chart, world, rule) for world in worlds(chart)]
                seen["later"] += found is not None and lengths.count(found[0]) > 1
            self.assertEqual(best_rules(chart), walkers_model.best_rules(plan))
        self.assertGreater(min(seen.values()), 15)

    def test_the_first_of_several_worst_worlds(self):
        chart = Map(2, ((0, 1, 1), (0, 1, 2), (0, 1, 3)), (0, 1), 2)
        for rule in RULES:
            self.assertEqual(worst(chart, rule), (3, (0, 1)))
            self.assertEqual(worst(Map(2, chart.roads, (0, 1), 1), rule), (2, (0,)))
            self.assertEqual(worst(Map(2, chart.roads, (0, 1), 0), rule), (1, ()))
        even = Map(2, ((0, 1, 5), (0, 1, 6), (0, 1, 7)), (0, 1), 1)
        self.assertEqual(worst(even, "near"), (6, (0,)))
        line = Map(4, ((0, 1, 1), (1, 2, 1), (2, 3, 1)), (0, 3), 3)
        self.assertEqual(worst(line, "near"), (3, ()))

    def test_it_arrives_in_no_world(self):
        for most in range(4):
            chart = Map(3, ((0, 1, 1),), (0, 2), most)
            self.assertEqual([worst(chart, rule) for rule in RULES], [None] * 3)
            self.assertEqual(best_rules(chart), [])

    def test_it_arrives_in_some_worlds(self):
        for rule in RULES:
            self.assertEqual(worst(Map(2, ((0, 1, 4),), (0, 1), 1), rule), (4, ()))
        self.assertEqual([worst(Map(*WORSE), rule) for rule in RULES], [(7, (2,)), (5, ()), (5, ())])

    def test_best_rules(self):
        self.assertEqual([worst(Map(*LATE), rule) for rule in RULES], [(4, ()), (4, ()), (11, ())])
        found = {}
        for plan in [LATE, *drawn(2500, 3)]:
            rules = tuple(best_rules(Map(*plan)))
            found.setdefault(rules, plan)
        # Each of the rules alone, each two of them, all, and none.
        self.assertEqual(sorted(found), sorted(model.subsets(RULES)))
        for rules, plan in found.items():
            self.assertEqual(list(rules), walkers_model.best_rules(plan))


class Greatest(unittest.TestCase):
    def test_the_greatest_maps(self):
        source = Random(4)
        slowest = 0
        for _ in range(6):
            triples = set()
            while len(triples) < 8:
                triples.add((*sorted(source.sample(range(6), 2)), source.randint(1, 9)))
            plan = Plan(6, tuple(sorted(triples)), tuple(source.sample(range(6), 2)), 3)
            begin = time.perf_counter()
            rules = best_rules(Map(*plan))
            slowest = max(slowest, time.perf_counter() - begin)
            self.assertEqual(rules, walkers_model.best_rules(plan))
        self.assertLess(slowest, 3)


class Errors(unittest.TestCase):
    def test_no_map(self):
        for chart in (*OTHER_KINDS, 3, FORK, ()):
            for rule in ("near", "far", None):
                for world in ((), (7,), None):
                    for call in (walk, walked):
                        with self.subTest(chart=chart), self.assertRaises(BadMap) as caught:
                            call(chart, world, rule)
                        self.assertIsNone(caught.exception.part)
                with self.assertRaises(BadMap) as caught:
                    worst(chart, rule)
                self.assertIsNone(caught.exception.part)
            with self.assertRaises(BadMap) as caught:
                best_rules(chart)
            self.assertIsNone(caught.exception.part)

    def test_no_world(self):
        wrong = ((0, 1, 2), (1, 0), (0, 0), (-1,), (3,), (True,), (False,), ("0",), (None,), [], [0], 0, 1, *OTHER_KINDS)
        for world in wrong:
            for rule in ("near", "far", None):
                for call in (walk, walked):
                    with self.subTest(world=world), self.assertRaises(BadWorld):
                        call(Map(*WORSE), world, rule)
        for call in (walk, walked):
            with self.assertRaises(BadWorld):
                call(Map(*FORK), (0, 1), "near")

    def test_no_rule(self):
        for rule in NO_RULES:
            for call in (walk, walked):
                with self.subTest(rule=rule), self.assertRaises(BadRule):
                    call(Map(*FORK), (), rule)
            with self.assertRaises(BadRule):
                worst(Map(*FORK), rule)


if __name__ == "__main__":
    unittest.main()
