"""The whole interface: names, parameters, and that the greatest maps are answered in time."""

import importlib
import inspect
import time
import unittest
from random import Random

from model import Plan
from shutroads import errors
from shutroads.errors import CutOff, TooLarge, TooShort
from shutroads.guards import Guards, guard, guard_price
from shutroads.helps import help_cost, help_for, moves, tool_costs
from shutroads.maps import Map, open_length, worlds
from shutroads.regrets import least_ratio, least_surplus, ratio, surplus
from shutroads.sessions import Session
from shutroads.sure import sure, sure_length
from shutroads.texts import map_text, read_map, read_world, world_text
from shutroads.walkers import RULES, best_rules, walk, walked, worst
from shutroads.walks import first_states, results, ways

FUNCTIONS = {
    "maps": {"worlds": "chart", "open_length": "chart world"},
    "walks": {"first_states": "chart", "ways": "chart state", "results": "chart state road"},
    "sure": {"sure": "chart state", "sure_length": "chart state"},
    "regrets": {"surplus": "chart", "least_surplus": "chart", "ratio": "chart", "least_ratio": "chart"},
    "helps": {"moves": "chart position tools", "help_for": "chart position tools", "help_cost": "chart position tools",
              "tool_costs": "chart state tools"},
    "guards": {"guard": "chart bound", "guard_price": "chart bound"},
    "walkers": {"walk": "chart world rule", "walked": "chart world rule", "worst": "chart rule", "best_rules": "chart"},
    "sessions": {},
    "texts": {"map_text": "chart", "world_text": "chart world", "read_map": "text", "read_world": "chart text"},
}
CLASSES = {
    ("maps", "Map"): ("places roads ends most", {}, "places roads ends most", "__len__ __eq__"),
    ("sure", "Sure"): ("length heights levels", {"shows": "chart state"}, "", "__eq__"),
    ("sure", "Parted"): ("world", {"shows": "chart state"}, "", "__eq__"),
    ("regrets", "Surplus"): ("amount heights levels", {"shows": "chart"}, "", "__eq__"),
    ("regrets", "Ratio"): ("ratio heights levels", {"shows": "chart"}, "", "__eq__"),
    ("helps", "Help"): ("cost heights levels", {"shows": "chart position tools"}, "", "__eq__"),
    ("helps", "Lost"): ("spots", {"shows": "chart position tools"}, "", "__eq__ __iter__"),
    ("guards", "Guards"): ("guarded heights tree", {"shows": "chart bound"}, "", "__eq__ __iter__"),
    ("sessions", "Session"): (
        "chart world",
        {"take": "road", "is_done": "", "total": "", "undo": "", "branch": "", "trial": "", "tried": "some"},
        "state journal", "__len__ __iter__",
    ),
}


def parameters(found):
    return [name for name in inspect.signature(found).parameters if name != "self"]


class Names(unittest.TestCase):
    def test_functions_stand_in_their_files(self):
        for file, wanted in FUNCTIONS.items():
            module = importlib.import_module(f"shutroads.{file}")
            for name, names in wanted.items():
                found = getattr(module, name)
                self.assertTrue(inspect.isfunction(found))
                self.assertEqual((found.__module__, parameters(found)), (f"shutroads.{file}", names.split()))

    def test_classes_and_their_methods_stand_in_their_files(self):
        for (file, name), (names, methods, properties, signs) in CLASSES.items():
            found = getattr(importlib.import_module(f"shutroads.{file}"), name)
            self.assertEqual((found.__module__, parameters(found)), (f"shutroads.{file}", names.split()))
            for method, own in methods.items():
                self.assertEqual(parameters(vars(found)[method]), own.split())
            for one in properties.split():
                self.assertIsInstance(vars(found)[one], property)
            for sign in signs.split():
                self.assertIn(sign, vars(found))

    def test_attributes_are_set_on_each_object(self):
        for (file, name), (names, _, properties, _) in CLASSES.items():
            if not properties:
                found = getattr(importlib.import_module(f"shutroads.{file}"), name)
                self.assertEqual(list(vars(found(*[()] * len(names.split())))), names.split())
        for name, attribute in (("BadMap", "part"), ("BadRoads", "index"), ("BadText", "row")):
            self.assertIn(attribute, vars(getattr(errors, name)(None)))


class Greatest(unittest.TestCase):
    def calls(self, chart, source):
        """Yield calls of all functions with arguments that are right."""
        world = source.choice(worlds(chart))
        state = first_states(chart)[0]
        position = (state, ())
        yield lambda: (worlds(chart), open_length(chart, world), first_states(chart), ways(chart, state))
        yield lambda: [results(chart, state, road) for road in ways(chart, state)]
        for one in (state, first_states(chart)[-1]):
            yield lambda: sure(chart, one).shows(chart, one) and sure_length(chart, one)
        yield lambda: least_surplus(chart) or surplus(chart).shows(chart)
        yield lambda: least_ratio(chart) and ratio(chart).shows(chart)
        for tools in ((None, None), (3, None), (None, 4), (1, 9)):
            yield lambda: moves(chart, position, tools)
            yield lambda: help_for(chart, position, tools).shows(chart, position, tools)
            yield lambda: help_cost(chart, position, tools)
            yield lambda: tool_costs(chart, state, tools)
        for bound in (open_length(chart, ()) or 1, 60):
            yield lambda: guard(chart, bound).shows(chart, bound)
            yield lambda: guard_price(chart, bound)
            yield lambda: Guards((), {}, ("price", None, None)).shows(chart, bound)
        yield lambda: [(walk(chart, world, rule), walked(chart, world, rule), worst(chart, rule)) for rule in RULES]
        yield lambda: best_rules(chart)
        yield lambda: read_map(map_text(chart)) == chart and read_world(chart, world_text(chart, world)) == world
        yield lambda: [Session(chart, one).tried(walk(chart, one, "near")[:20]) for one in worlds(chart)]

    def test_each_answer_or_documented_error_comes_in_time(self):
        source = Random(1)
        slowest = answers = 0
        for roads in (6, 7, 8, 8, 8, 8):
            triples = set()
            while len(triples) < roads:
                # More roads at the beginning make more states.
                first, second = sorted(source.sample(source.choice([range(6), range(3)]), 2))
                triples.add((first, second, source.randint(1, 9)))
            plan = Plan(6, tuple(sorted(triples)), tuple(source.sample(range(6), 2)), 3)
            for call in self.calls(Map(*plan), source):
                begin = time.perf_counter()
                try:
                    call()
                    answers += 1
                except (CutOff, TooLarge, TooShort):
                    pass
                slowest = max(slowest, time.perf_counter() - begin)
        self.assertLess(slowest, 5)
        self.assertGreater(answers, 60)

    def test_many_parallel_roads(self):
        chart = Map(6, tuple((0, 1, length) for length in range(2, 10)), (0, 1), 3)
        begin = time.perf_counter()
        for call in self.calls(chart, Random(2)):
            try:
                call()
            except TooLarge:
                pass
        self.assertLess(time.perf_counter() - begin, 20)


if __name__ == "__main__":
    unittest.main()
