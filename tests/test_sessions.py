import unittest
from random import Random

import model
import walkers_model
from model import FORK, OTHER_KINDS, Plan
from shutroads.errors import BadMap, BadRoad, BadRoads, BadWorld, NothingDone
from shutroads.maps import Map
from shutroads.sessions import Session
from shutroads.walks import first_states, results

LINE = Plan(4, ((0, 1, 4), (1, 2, 5), (2, 3, 6)), (0, 3), 1)
NO_ROADS = (-1, -2, 3, 4, 10 ** 30, True, False, (), (0,), [0], "0", 2, *OTHER_KINDS)


def state_after(plan, world, taken):
    """Return the state after some roads, found anew from the beginning."""
    state = walkers_model.begin(plan, world)
    for road in taken:
        state = walkers_model.after(plan, world, state, road)
    return state


def drawn(many, seed):
    """Yield drawn maps, each with a drawn world and a session in it."""
    source = Random(seed)
    for _ in range(many):
        plan = model.random_plan(source)
        world = source.choice(model.world_list(plan))
        yield plan, world, Session(Map(*plan), world), source


class Wanted(unittest.TestCase):
    def assert_is(self, session, plan, world, taken):
        """Compare all that a session tells with the model."""
        state = state_after(plan, world, taken)
        self.assertEqual(session.state, state)
        self.assertEqual(session.journal, taken)
        self.assertEqual((len(session), list(session)), (len(taken), taken))
        self.assertEqual(session.total(), walkers_model.length_of(plan, taken))
        self.assertIs(session.is_done(), state[0] == plan.ends[1])


class Example(Wanted):
    def test_the_example_of_the_document(self):
        fork = Map(3, ((0, 1, 1), (0, 2, 5), (1, 2, 1)), (0, 2), 1)
        session = Session(fork, (2,))
        found = [session.take(0), session.tried([0, 1]), session.is_done(), session.total(), session.undo(),
                 session.journal]
        self.assertEqual(found, [(1, (0, 1), (2,)), [(0, (0, 1), (2,)), (2, (0, 1), (2,))], False, 1, 0, []])

    def test_all_is_defined_in_its_file_and_class(self):
        self.assertEqual(Session.__module__, "shutroads.sessions")
        for name in ("take", "is_done", "total", "undo", "branch", "trial", "tried", "__len__", "__iter__", "__init__"):
            self.assertIn(name, vars(Session))
        for name in ("state", "journal"):
            self.assertIsInstance(vars(Session)[name], property)


class Steps(Wanted):
    def test_drawn_sessions(self):
        refused = from_goal = taken_back = 0
        for plan, world, session, source in drawn(500, 1):
            taken = []
            for _ in range(12):
                self.assert_is(session, plan, world, taken)
                state = state_after(plan, world, taken)
                roads = model.way_list(plan, state)
                for road in range(-1, len(plan.roads) + 1):
                    if road not in roads:
                        refused += 1
                        with self.assertRaises(BadRoad):
                            session.take(road)
                self.assert_is(session, plan, world, taken)
                if taken and source.random() < 0.3:
                    self.assertEqual(session.undo(), taken.pop())
                    taken_back += 1
                elif roads:
                    road = source.choice(roads)
                    after = session.take(road)
                    self.assertIn(after, results(Map(*plan), state, road))
                    taken.append(road)
                    self.assertEqual(after, state_after(plan, world, taken))
                    from_goal += state[0] == plan.ends[1]
        self.assertGreater(min(refused, from_goal, taken_back), 100)

    def test_the_first_state_is_that_which_comes_about_in_the_world(self):
        for plan in model.all_plans()[:60]:
            chart = Map(*plan)
            for world in model.world_list(plan):
                session = Session(chart, world)
                self.assert_is(session, plan, world, [])
                self.assertIn(session.state, first_states(chart))

    def test_roads_that_are_refused_change_nothing(self):
        session = Session(Map(*FORK), (2,))
        for taken in ([], [0], [0, 0], [0, 0, 1]):
            if taken:
                session.take(taken[-1])
            for road in NO_ROADS:
                with self.subTest(road=road), self.assertRaises(BadRoad):
                    session.take(road)
                self.assert_is(session, FORK, (2,), taken)

    def test_a_road_that_is_elsewhere_or_shut(self):
        session = Session(Map(*FORK._replace(most=2)), (0,))
        for road in (0, 2):
            with self.assertRaises(BadRoad):
                session.take(road)
        self.assertEqual(session.take(1), (2, (1, 2), (0,)))
        self.assertEqual(session.take(2), (1, (1, 2), (0,)))
        with self.assertRaises(BadRoad):
            session.take(0)

    def test_roads_can_be_taken_at_the_goal(self):
        session = Session(Map(*FORK), ())
        self.assertEqual([session.is_done(), session.take(1), session.is_done()], [False, (2, (0, 1, 2), ()), True])
        self.assertEqual([session.take(2), session.is_done()], [(1, (0, 1, 2), ()), False])
        self.assertEqual([session.take(2), session.is_done()], [(2, (0, 1, 2), ()), True])
        self.assert_is(session, FORK, (), [1, 2, 2])

    def test_undoing_all_and_once_more(self):
        for plan, world, session, source in drawn(40, 2):
            taken = []
            for _ in range(source.randint(0, 8)):
                roads = model.way_list(plan, session.state)
                if roads:
                    taken.append(source.choice(roads))
                    session.take(taken[-1])
            while taken:
                self.assertEqual(session.undo(), taken.pop())
                self.assert_is(session, plan, world, taken)
            for _ in range(2):
                with self.assertRaises(NothingDone):
                    session.undo()
                self.assert_is(session, plan, world, [])

    def test_what_was_seen_is_forgotten_when_a_road_is_undone(self):
        session = Session(Map(*LINE), (1,))
        self.assertEqual(session.take(0), (1, (0,), (1,)))
        self.assertEqual(session.take(0), (0, (0,), (1,)))
        self.assertEqual([session.undo(), session.state], [0, (1, (0,), (1,))])
        self.assertEqual([session.undo(), session.state], [0, (0, (0,), ())])

    def test_lists_are_new_each_time(self):
        session = Session(Map(*FORK), (2,))
        session.take(0)
        found = session.journal
        self.assertIs(type(found), list)
        found.append(7)
        found[0] = 1
        self.assertEqual((session.journal, len(session), list(session), session.total()), ([0], 1, [0], 1))
        session.journal.clear()
        self.assert_is(session, FORK, (2,), [0])
        kept = session.journal
        session.take(0)
        self.assertEqual(kept, [0])
        states = session.tried([0])
        states.clear()
        self.assertEqual(session.tried([0]), [(1, (0, 1), (2,))])

    def test_a_session_can_be_iterated_over_each_time_anew(self):
        session = Session(Map(*FORK), (2,))
        self.assertEqual(list(session), [])
        for road in (0, 0, 1):
            session.take(road)
        self.assertEqual([list(session), list(session), [road for road in session]], [[0, 0, 1]] * 3)
        self.assertEqual([(one, two) for one in session for two in session][:4], [(0, 0), (0, 0), (0, 1), (0, 0)])
        session.undo()
        self.assertEqual(list(session), [0, 0])

    def test_properties_are_not_set(self):
        session = Session(Map(*FORK), ())
        for name in ("state", "journal"):
            with self.assertRaises(AttributeError):
                setattr(session, name, [])

    def test_parameters_may_be_named(self):
        session = Session(world=(2,), chart=Map(*FORK))
        self.assertEqual(session.take(road=0), (1, (0, 1), (2,)))
        self.assertEqual(session.tried(some=(0,)), [(0, (0, 1), (2,))])


class Branches(Wanted):
    def test_a_branch_and_its_origin_are_independent(self):
        for plan, world, session, source in drawn(150, 3):
            journals = {0: []}
            sessions = {0: session}
            for _ in range(25):
                at = source.choice(list(sessions))
                roads = model.way_list(plan, sessions[at].state)
                chance = source.random()
                if chance < 0.2:
                    sessions[len(sessions)] = sessions[at].branch()
                    journals[len(journals)] = list(journals[at])
                elif chance < 0.4 and journals[at]:
                    self.assertEqual(sessions[at].undo(), journals[at].pop())
                elif roads:
                    journals[at].append(source.choice(roads))
                    sessions[at].take(journals[at][-1])
                for key in sessions:
                    self.assert_is(sessions[key], plan, world, journals[key])
            for key in sessions:
                while journals[key]:
                    self.assertEqual(sessions[key].undo(), journals[key].pop())
                self.assert_is(sessions[key], plan, world, [])
                with self.assertRaises(NothingDone):
                    sessions[key].undo()

    def test_a_branch_is_a_session(self):
        session = Session(Map(*FORK), (2,))
        session.take(0)
        other = session.branch()
        self.assertIs(type(other), Session)
        self.assertIsNot(other, session)

    def test_a_branch_made_within_a_trial(self):
        session = Session(Map(*FORK), (2,))
        session.take(0)
        with session.trial():
            session.take(0)
            with session.trial():
                session.take(1)
                other = session.branch()
                self.assert_is(other, FORK, (2,), [0, 0, 1])
            self.assert_is(other, FORK, (2,), [0, 0, 1])
        self.assert_is(session, FORK, (2,), [0])
        self.assert_is(other, FORK, (2,), [0, 0, 1])
        self.assertEqual([other.undo() for _ in range(3)], [1, 0, 0])
        with self.assertRaises(NothingDone):
            other.undo()
        self.assert_is(session, FORK, (2,), [0])
        # And while the trial is going on, too.
        with session.trial():
            other = session.branch()
            self.assertEqual(other.undo(), 0)
            with self.assertRaises(NothingDone):
                session.undo()
            with other.trial():
                other.take(1)
            self.assert_is(other, FORK, (2,), [])
        self.assert_is(session, FORK, (2,), [0])


class Trials(Wanted):
    def setUp(self):
        self.session = Session(Map(*FORK), (2,))
        self.session.take(0)

    def is_as_before(self):
        self.assert_is(self.session, FORK, (2,), [0])
        # Roads from before the trial can be undone again.
        self.assertEqual(self.session.branch().undo(), 0)

    def test_it_gives_the_session_itself(self):
        with self.session.trial() as inner:
            self.assertIs(inner, self.session)
            inner.take(0)
            inner.take(1)
            self.assert_is(inner, FORK, (2,), [0, 0, 1])
        self.is_as_before()
        self.assertEqual(self.session.undo(), 0)

    def test_an_empty_one(self):
        with self.session.trial():
            pass
        self.is_as_before()

    def returned(self):
        with self.session.trial() as inner:
            return inner.take(0)

    def test_it_is_left_by_return_break_and_continue(self):
        self.assertEqual(self.returned(), (0, (0, 1), (2,)))
        self.is_as_before()
        for at in range(3):
            with self.session.trial() as inner:
                inner.take(0)
                if at == 1:
                    continue
                break
        self.is_as_before()

    def test_it_is_left_by_an_error_of_the_package(self):
        with self.assertRaises(BadRoad):
            with self.session.trial() as inner:
                inner.take(0)
                inner.take(2)
        self.is_as_before()
        with self.assertRaises(NothingDone):
            with self.session.trial() as inner:
                inner.undo()
        self.is_as_before()
        with self.assertRaises(BadRoads) as caught:
            with self.session.trial() as inner:
                inner.take(0)
                inner.tried([1, 0])
        self.assertEqual(caught.exception.index, 1)
        self.is_as_before()

    def test_it_is_left_by_another_error_which_is_passed_on(self):
        for error in (KeyError("a"), ZeroDivisionError(), StopIteration(), KeyboardInterrupt(), GeneratorExit(), SystemExit()):
            with self.assertRaises(type(error)) as caught:
                with self.session.trial() as inner:
                    inner.take(0)
                    raise error
            self.assertIs(caught.exception, error)
            self.is_as_before()

    def test_only_its_own_roads_can_be_undone(self):
        with self.session.trial() as inner:
            with self.assertRaises(NothingDone):
                inner.undo()
            self.assert_is(inner, FORK, (2,), [0])
            inner.take(0)
            inner.take(1)
            self.assertEqual([inner.undo(), inner.undo()], [1, 0])
            for _ in range(2):
                with self.assertRaises(NothingDone):
                    inner.undo()
                self.assert_is(inner, FORK, (2,), [0])
            inner.take(0)
        self.is_as_before()

    def test_trials_within_one_another(self):
        session = self.session
        with session.trial() as outer:
            outer.take(0)
            with session.trial() as inner:
                self.assertIs(inner, session)
                with self.assertRaises(NothingDone):
                    inner.undo()
                inner.take(1)
                with inner.trial():
                    with self.assertRaises(NothingDone):
                        inner.undo()
                    inner.take(1)
                    self.assert_is(session, FORK, (2,), [0, 0, 1, 1])
                self.assert_is(session, FORK, (2,), [0, 0, 1])
                self.assertEqual(inner.undo(), 1)
                with self.assertRaises(NothingDone):
                    inner.undo()
            self.assert_is(session, FORK, (2,), [0, 0])
            self.assertEqual(outer.undo(), 0)
            with self.assertRaises(NothingDone):
                outer.undo()
        self.is_as_before()

    def test_an_error_through_two_trials(self):
        with self.assertRaises(KeyError):
            with self.session.trial() as outer:
                outer.take(0)
                with self.session.trial() as inner:
                    inner.take(1)
                    raise KeyError
        self.is_as_before()
        with self.session.trial() as outer:
            outer.take(0)
            with self.assertRaises(KeyError):
                with self.session.trial() as inner:
                    inner.take(1)
                    raise KeyError
            self.assert_is(outer, FORK, (2,), [0, 0])
        self.is_as_before()

    def test_one_after_another_and_one_that_is_kept(self):
        kept = self.session.trial()
        for roads in ([0], [0, 1], []):
            with self.session.trial():
                self.assertEqual(len(self.session.tried(roads)), len(roads))
                for road in roads:
                    self.session.take(road)
            self.is_as_before()
        # It begins where the with-block does.
        self.session.take(0)
        with kept:
            self.session.take(1)
            with kept:
                self.session.take(1)
                with self.assertRaises(BadRoad):
                    self.session.take(2)
            self.assert_is(self.session, FORK, (2,), [0, 0, 1])
        self.assert_is(self.session, FORK, (2,), [0, 0])

    def test_a_trial_that_is_not_entered_is_none(self):
        self.session.trial()
        self.assertEqual(self.session.undo(), 0)

    def test_trials_in_drawn_sessions(self):
        for plan, world, session, source in drawn(400, 4):
            self.go_on(plan, world, session, source, [], 0, 4)
            with self.assertRaises(NothingDone):
                while True:
                    session.undo()
            self.assert_is(session, plan, world, [])

    def go_on(self, plan, world, session, source, taken, own, depth):
        """Take roads, undo them, and try some in trials within one another, as deep as told."""
        for _ in range(source.randint(1, 6)):
            chance = source.random()
            roads = model.way_list(plan, session.state)
            if chance < 0.3 and depth:
                before = list(taken)
                try:
                    with session.trial() as inner:
                        self.go_on(plan, world, inner, source, list(taken), len(taken), depth - 1)
                        if chance < 0.15:
                            raise LookupError
                except LookupError:
                    self.assertLess(chance, 0.15)
                self.assertEqual(taken, before)
            elif chance < 0.6 and len(taken) > own:
                self.assertEqual(session.undo(), taken.pop())
            elif roads:
                taken.append(source.choice(roads))
                session.take(taken[-1])
            if len(taken) == own:
                with self.assertRaises(NothingDone):
                    session.undo()
            self.assert_is(session, plan, world, taken)


class Tried(Wanted):
    def setUp(self):
        self.session = Session(Map(*FORK), (2,))
        self.session.take(0)
        self.taken = [0]

    def refuse(self, some, index):
        with self.subTest(some=some):
            with self.assertRaises(BadRoads) as caught:
                self.session.tried(some)
            self.assertEqual(caught.exception.index, index)
            self.assertIs(type(caught.exception.index), type(index))
            self.assert_is(self.session, FORK, (2,), self.taken)
            self.assert_is(self.session.branch(), FORK, (2,), self.taken)

    def test_a_list_a_tuple_and_nothing(self):
        wanted = [(0, (0, 1), (2,)), (2, (0, 1), (2,)), (0, (0, 1), (2,))]
        for some in ([0, 1, 1], (0, 1, 1)):
            found = self.session.tried(some)
            self.assertIs(type(found), list)
            self.assertEqual(found, wanted)
            self.assert_is(self.session, FORK, (2,), [0])
        self.assertEqual([self.session.tried([]), self.session.tried(())], [[], []])
        self.assertEqual(self.session.undo(), 0)

    def test_the_list_is_not_changed(self):
        some = [0, 1]
        self.session.tried(some)
        self.assertEqual(some, [0, 1])

    def test_exactly_twenty_roads_and_one_more(self):
        self.assertEqual(len(self.session.tried([0] * 20)), 20)
        self.assertEqual(self.session.tried((0,) * 20)[-1], (1, (0, 1), (2,)))
        self.refuse([0] * 21, None)
        self.refuse((0,) * 21, None)
        self.refuse([7] * 21, None)
        self.refuse([0] * 19 + [7], 19)

    def test_no_list(self):
        for some in OTHER_KINDS:
            if not isinstance(some, list):
                self.refuse(some, None)
        for some in (0, 7, {0: True}, "0", {0}, range(1), iter([0]), Session(Map(*FORK), ())):
            self.refuse(some, None)

    def test_a_road_that_cannot_be_taken_at_each_index(self):
        right = [0, 1, 1, 0, 0, 1, 1, 0] * 2 + [0, 1, 1, 0]
        self.assertEqual(len(self.session.tried(right)), 20)
        for index in range(20):
            for wrong in (2, 3, -1, True, False, None, "0", [0]):
                self.refuse(right[:index] + [wrong] + right[index + 1:], index)
                self.refuse(tuple(right[:index]) + (wrong, 9, 9)[:20 - index], index)

    def test_also_within_a_trial(self):
        with self.session.trial() as inner:
            inner.take(0)
            self.taken = [0, 0]
            self.assertEqual(inner.tried([1]), [(2, (0, 1), (2,))])
            self.refuse([1, 0], 1)
            self.refuse(None, None)
            self.assertEqual(inner.undo(), 0)
            with self.assertRaises(NothingDone):
                inner.undo()
        self.assert_is(self.session, FORK, (2,), [0])

    def test_against_the_model(self):
        for plan, world, session, source in drawn(60, 5):
            taken = []
            state = session.state
            for _ in range(source.randint(0, 20)):
                roads = model.way_list(plan, state)
                if roads:
                    taken.append(source.choice(roads))
                    state = state_after(plan, world, taken)
            self.assertEqual(session.tried(taken), [state_after(plan, world, taken[:at + 1]) for at in range(len(taken))])
            self.assert_is(session, plan, world, [])


class Errors(unittest.TestCase):
    def test_no_map(self):
        for chart in (*OTHER_KINDS, 3, FORK, ()):
            for world in ((), (7,), None):
                with self.subTest(chart=chart), self.assertRaises(BadMap) as caught:
                    Session(chart, world)
                self.assertIsNone(caught.exception.part)

    def test_no_world(self):
        wrong = ((0, 1), (1, 0), (0, 0), (-1,), (3,), (True,), (False,), ("0",), (None,), [], [0], 0, 1, *OTHER_KINDS)
        for world in wrong:
            with self.subTest(world=world), self.assertRaises(BadWorld):
                Session(Map(*FORK), world)

    def test_sessions_and_objects_of_other_classes_are_not_equal(self):
        chart = Map(*FORK)
        session = Session(chart, ())
        self.assertTrue(session == session)
        self.assertFalse(session != session)
        for other in (chart, BadMap(None)):
            self.assertIs(session == other, False)
            self.assertIs(other == session, False)
            self.assertIs(session != other, True)


if __name__ == "__main__":
    unittest.main()
