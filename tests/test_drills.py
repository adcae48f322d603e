"""Promises [1] and [8]: the interface's rotatesafe/drills.py."""

import unittest

from rotatesafe.drills import Drill
from rotatesafe.errors import BadNumber, BadSecret, BadStep, BadSuspicion, BadUse, BadWorld, NothingDone
from rotatesafe.plans import is_sound, plan_cost
from rotatesafe.rotations import rotation
from rotatesafe.worlds import World
from support import (NO_SUSPICIONS, NO_WORLDS, ODD_VALUES, Same, WithErrors, all_steps, dense_world, model_cost,
                     model_fault, model_has_new, model_knows, model_refused, random_suspicions, seeded, small_world)

PAIR = World.of(('app', 'token', ('key',), 3), ('app', 'key', (), 5))
SENT = [('mint', 'token'), ('send', 'app', 'token'), ('retire', 'token')]
# The message with the new w is encrypted with the new v, that u protects for another service.
LATER = World.of(('a', 'w', ('v',), 1), ('a', 'v', (), 1), ('b', 'v', ('u',), 1), ('b', 'u', (), 1))
START = [('mint', 'v'), ('mint', 'w'), ('carry', 'a', 'v'), ('send', 'a', 'w')]
EVERYTHING = tuple('uvwxyz')


def largest_world():
    return World.of(*[(service, secret, (EVERYTHING[place - 1], EVERYTHING[place - 2]), 1 + place)
                      for service in 'ab' for place, secret in enumerate(EVERYTHING)])


def snapshot(drill, world, count):
    """Return all that can be asked of a drill."""
    return [drill.steps, drill.is_lost, drill.is_done, [drill.accepted(secret) for secret in world.secrets],
            [drill.version(use) for use in world.uses], [drill.known(index) for index in range(count)],
            list(drill.possible()), drill.completion()]


class Refusals(WithErrors):
    def test_worlds(self):
        for value in NO_WORLDS:
            self.assertIsNone(self.refused(BadWorld, Drill, value, [('key',)]).part)
            self.assertIsNone(self.refused(BadWorld, Drill.after, value, [('key',)], []).part)

    def test_suspicions(self):
        for value in NO_SUSPICIONS:
            self.refused(BadSuspicion, Drill, small_world(), value)
            self.refused(BadSuspicion, Drill.after, small_world(), value, [])

    def test_what_is_no_step(self):
        wrong = ODD_VALUES + [
            "mint", ["mint", "token"], ("mint",), ("mint", "salt"), ("mint", "app", "token"), ("mint", ["token"]),
            ("mint", Same()), (Same(), "token"), ("retire", "salt"), ("send", "token"), ("send", "web", "token"),
            ("send", ("app", "token")), ("carry", "app"), ("carry", "app", "token", 3), ("burn", "token"),
            (None, "token"), (True, "token"), ("send", "app", Same()), ("Mint", "token")]
        drill = Drill(PAIR, [('key',)])
        for count in range(3):
            before = snapshot(drill, PAIR, 1)
            for value in wrong:
                self.assertEqual(self.refused(BadStep, drill.do, value).index, count)
            self.assertEqual(snapshot(drill, PAIR, 1), before)
            drill.do(SENT[count])

    def test_steps_that_are_not_possible(self):
        drill = Drill(PAIR, [('key',)])
        for done in [('mint', 'token'), ('carry', 'app', 'token'), ('retire', 'token')]:
            before = snapshot(drill, PAIR, 1)
            for step in all_steps(PAIR):
                if model_refused(PAIR, drill.steps, step):
                    self.assertEqual(self.refused(BadStep, drill.do, step).index, len(drill.steps))
                    self.assertEqual(snapshot(drill, PAIR, 1), before)
            drill.do(done)

    def test_retire_while_a_use_holds_the_old_version(self):
        world = World.of(('a', 'x', (), 1), ('b', 'x', (), 1))
        drill = Drill(world, [('x',)])
        for step in [('mint', 'x'), ('carry', 'b', 'x')]:
            drill.do(step)
            self.assertEqual(self.refused(BadStep, drill.do, ('retire', 'x')).index, len(drill.steps))
            self.assertEqual(drill.accepted('x'), 'both')
        drill.do(('carry', 'a', 'x'))
        drill.do(('retire', 'x'))
        self.assertEqual(drill.accepted('x'), 'new')

    def test_send_without_a_channel(self):
        drill = Drill.after(PAIR, [('key',)], [('mint', 'key')])
        self.assertEqual(self.refused(BadStep, drill.do, ('send', 'app', 'key')).index, 1)

    def test_nothing_done(self):
        drill = Drill(PAIR, [('key',)])
        self.refused(NothingDone, drill.undo)
        drill.do(('mint', 'key'))
        drill.undo()
        self.refused(NothingDone, drill.undo)
        self.assertEqual(drill.steps, [])

    def test_secrets_and_uses(self):
        drill = Drill(PAIR, [('key',)])
        for value in ODD_VALUES + ["salt", "app", ("key",), ["key"], Same()]:
            self.refused(BadSecret, drill.accepted, value)
        for value in ODD_VALUES + ["key", ('db', 'key'), ['app', 'key'], ('key', 'app'), ('app', Same()), Same(),
                                   ('app', 'key', 5), ('app', 'salt')]:
            self.refused(BadUse, drill.version, value)

    def test_numbers(self):
        for count in range(1, 4):
            drill = Drill(PAIR, [('key',)] * count)
            wrong = [value for value in ODD_VALUES if type(value) is not int] + ["0", (0,), [0], -1, count, count + 1,
                                                                                10 ** 30, -10 ** 30, Same(), True, False]
            for value in wrong:
                self.refused(BadNumber, drill.known, value)
            for index in range(count):
                self.assertEqual(drill.known(index), [('token', 'old'), ('key', 'old')])

    def test_after_with_what_is_no_list(self):
        wrong = [value for value in ODD_VALUES if not isinstance(value, (list, tuple))]
        for value in wrong + ["mint token", {('mint', 'token'): 1}, {('mint', 'token')}, iter([]), range(0)]:
            self.assertIsNone(self.refused(BadStep, Drill.after, PAIR, [('key',)], value).index)

    def test_after_with_wrong_steps(self):
        for plan, index in [([None], 0), (SENT + [('mint', 'salt')], 3), (SENT + SENT, 3), (SENT[::2], 1),
                            ([SENT[1]], 0), (('mint', 'token'), 0), ((SENT[0], SENT[0]), 1)]:
            self.assertEqual(self.refused(BadStep, Drill.after, PAIR, [('key',)], plan).index, index)

    def test_after_executes_one_after_the_other(self):
        # A step that is refused stands before one that is no step at all.
        plan = [('mint', 'token'), ('retire', 'token'), ('mint', 'salt'), None]
        self.assertEqual(self.refused(BadStep, Drill.after, PAIR, [('key',)], plan).index, 1)

    def test_what_is_documented_first_is_raised(self):
        self.refused(BadWorld, Drill, None, None)
        self.refused(BadWorld, Drill.after, None, None, None)
        self.refused(BadSuspicion, Drill.after, PAIR, [], None)


class Examples(unittest.TestCase):
    def test_first(self):
        drill = Drill(PAIR, [('token',)])
        quiet = [drill.do(('mint', 'token')), drill.do(('send', 'app', 'token'))]
        found = [quiet, drill.is_lost, drill.known(0), drill.accepted('token'), drill.version(('app', 'token')),
                 drill.is_done]
        self.assertEqual(found, [[True, True], False, [('token', 'old')], 'both', 'new', False])

    def test_second(self):
        drill = Drill.after(PAIR, [('key',)], [('mint', 'token')])
        found = [drill.do(('send', 'app', 'token')), drill.is_lost, drill.known(0), drill.completion()]
        self.assertEqual(found, [False, True, [('token', 'old'), ('token', 'new'), ('key', 'old')], None])


class States(unittest.TestCase):
    def test_at_first(self):
        drill = Drill(PAIR, [('token',), ('key',)])
        self.assertEqual([drill.steps, drill.is_lost, drill.is_done], [[], False, False])
        self.assertEqual([drill.accepted(secret) for secret in PAIR.secrets], ['old', 'old'])
        self.assertEqual([drill.version(use) for use in PAIR.uses], ['old', 'old'])
        self.assertEqual([drill.known(0), drill.known(1)], [[('token', 'old')], [('token', 'old'), ('key', 'old')]])

    def test_each_step(self):
        drill = Drill(PAIR, [('token',)])
        for step, accepted, version in [(SENT[0], 'both', 'old'), (SENT[1], 'both', 'new'), (SENT[2], 'new', 'new')]:
            self.assertIs(drill.do(step), True)
            self.assertEqual([drill.accepted('token'), drill.version(('app', 'token'))], [accepted, version])
            self.assertEqual([drill.accepted('key'), drill.version(('app', 'key'))], ['old', 'old'])
        self.assertEqual([drill.steps, drill.is_lost, drill.is_done], [SENT, False, True])

    def test_done(self):
        drill = Drill.after(PAIR, [('token',)], SENT)
        self.assertIs(drill.is_done, True)
        self.assertTrue(is_sound(PAIR, [('token',)], drill.steps + drill.completion()))
        drill.do(('mint', 'key'))
        self.assertIs(drill.is_done, True)
        self.assertIs(Drill.after(PAIR, [('key',)], SENT).is_done, False)

    def test_lost_drill_goes_on(self):
        drill = Drill.after(PAIR, [('key',)], SENT[:2])
        self.assertEqual([drill.is_lost, drill.is_done, drill.completion()], [True, False, None])
        self.assertIs(drill.do(('retire', 'token')), True)
        self.assertEqual([drill.do(step) for step in [('mint', 'key'), ('carry', 'app', 'key'), ('retire', 'key')]],
                         [True] * 3)
        self.assertEqual([drill.is_lost, drill.is_done, drill.completion()], [True, False, None])
        self.assertEqual(drill.known(0), [('token', 'old'), ('token', 'new'), ('key', 'old')])
        self.assertEqual(list(drill.possible()), [])

    def test_lost_by_one_of_several_outsiders(self):
        for suspicions in [[('token',), ('key',)], [('key',), ('token',)], [('token',), ('token',), ('key',)]]:
            drill = Drill.after(PAIR, suspicions, SENT[:1])
            self.assertIs(drill.is_lost, False)
            self.assertIs(drill.do(SENT[1]), False)
            self.assertEqual([drill.is_lost, drill.completion()], [True, None])
            for index, suspicion in enumerate(suspicions):
                self.assertEqual(('token', 'new') in drill.known(index), suspicion == ('key',))

    def test_known_again_is_quiet(self):
        world = World.of(('a', 't', ('k',), 1), ('a', 'k', (), 1), ('b', 't', ('k',), 1), ('b', 'k', (), 1))
        drill = Drill.after(world, [('k',)], [('mint', 't')])
        self.assertIs(drill.do(('send', 'b', 't')), False)
        self.assertIs(drill.do(('send', 'a', 't')), True)
        drill.undo()
        drill.undo()
        self.assertIs(drill.do(('send', 'a', 't')), False)

    def test_not_quiet_for_a_second_outsider(self):
        world = World.of(('a', 't', ('k',), 1), ('a', 'k', (), 1), ('b', 't', ('l',), 1), ('b', 'l', (), 1))
        drill = Drill.after(world, [('k',), ('l',)], [('mint', 't')])
        self.assertIs(drill.do(('send', 'a', 't')), False)
        self.assertIs(drill.do(('send', 'b', 't')), False)
        self.assertEqual(drill.known(1), [('t', 'old'), ('t', 'new'), ('l', 'old')])

    def test_message_that_can_be_read_only_later(self):
        drill = Drill.after(LATER, [('u',)], START)
        self.assertEqual([drill.is_lost, drill.known(0)], [False, [('w', 'old'), ('v', 'old'), ('u', 'old')]])
        self.assertIs(drill.do(('send', 'b', 'v')), False)
        self.assertEqual(drill.known(0), [(secret, version) for secret in 'wv' for version in ['old', 'new']]
                         + [('u', 'old')])
        self.assertEqual([drill.is_lost, drill.completion()], [True, None])

    def test_versions_at_the_time_of_the_message_count(self):
        drill = Drill.after(PAIR, [('key',)], [('mint', 'key'), ('mint', 'token'), ('send', 'app', 'token')])
        self.assertIs(drill.do(('carry', 'app', 'key')), True)
        self.assertIs(drill.is_lost, True)
        drill = Drill.after(PAIR, [('key',)], [('mint', 'key'), ('mint', 'token'), ('carry', 'app', 'key')])
        self.assertIs(drill.do(('send', 'app', 'token')), True)
        self.assertIs(drill.is_lost, False)


class Undo(unittest.TestCase):
    def test_last_one_first(self):
        drill = Drill.after(PAIR, [('token',)], SENT)
        self.assertEqual([drill.undo(), drill.undo(), drill.undo()], SENT[::-1])
        self.assertEqual(drill.steps, [])

    def test_every_step_backwards(self):
        plan = START + [('send', 'b', 'v'), ('retire', 'w'), ('retire', 'v'), ('mint', 'u'), ('carry', 'b', 'u'),
                        ('retire', 'u')]
        for suspicions in [[('u',)], [('w',), ('u',), ('v',)]]:
            drill = Drill(LATER, suspicions)
            before = []
            for step in plan:
                before.append(snapshot(drill, LATER, len(suspicions)))
                drill.do(step)
            for step in plan[::-1]:
                self.assertEqual(drill.undo(), step)
                self.assertEqual(snapshot(drill, LATER, len(suspicions)), before.pop())

    def test_a_lost_drill_is_no_longer_lost(self):
        drill = Drill.after(PAIR, [('key',)], SENT)
        self.assertIs(drill.is_lost, True)
        drill.undo()
        self.assertIs(drill.is_lost, True)
        drill.undo()
        self.assertIs(drill.is_lost, False)
        self.assertTrue(is_sound(PAIR, [('key',)], drill.steps + drill.completion()))

    def test_other_steps_after_undo(self):
        drill = Drill.after(LATER, [('u',)], START + [('send', 'b', 'v')])
        drill.undo()
        drill.undo()
        self.assertIs(drill.do(('send', 'b', 'v')), False)
        self.assertEqual(drill.known(0), [('w', 'old'), ('v', 'old'), ('v', 'new'), ('u', 'old')])
        drill.undo()
        self.assertIs(drill.do(('carry', 'b', 'v')), True)
        self.assertIs(drill.do(('send', 'a', 'w')), True)
        self.assertEqual(drill.steps, START[:3] + [('carry', 'b', 'v'), ('send', 'a', 'w')])
        self.assertIs(drill.is_lost, False)


class Possible(unittest.TestCase):
    def test_order(self):
        drill = Drill(PAIR, [('key',)])
        self.assertEqual(list(drill.possible()), [('mint', 'token'), ('mint', 'key')])
        drill.do(('mint', 'key'))
        drill.do(('mint', 'token'))
        moves = [('send', 'app', 'token'), ('carry', 'app', 'token'), ('carry', 'app', 'key')]
        self.assertEqual(list(drill.possible()), moves)
        drill.do(('carry', 'app', 'key'))
        self.assertEqual(list(drill.possible()), moves[:2] + [('retire', 'key')])
        drill.do(('send', 'app', 'token'))
        self.assertEqual(list(drill.possible()), [('retire', 'token'), ('retire', 'key')])

    def test_all_kinds_at_once(self):
        world = World.of(('b', 'z', (), 1), ('a', 'x', ('y',), 1), ('a', 'y', ('x',), 1), ('b', 'y', ('z',), 1),
                         ('a', 'w', (), 1))
        drill = Drill.after(world, [('x',)], [('mint', 'y'), ('mint', 'z'), ('carry', 'b', 'z')])
        self.assertEqual(list(drill.possible()), [
            ('mint', 'x'), ('mint', 'w'), ('send', 'a', 'y'), ('carry', 'a', 'y'), ('send', 'b', 'y'),
            ('carry', 'b', 'y'), ('retire', 'z')])

    def test_steps_when_the_first_one_is_requested(self):
        drill = Drill(PAIR, [('key',)])
        steps = drill.possible()
        drill.do(('mint', 'token'))
        self.assertEqual(next(steps), ('mint', 'key'))
        drill.do(('mint', 'key'))
        self.assertEqual(list(steps), [('send', 'app', 'token'), ('carry', 'app', 'token')])
        self.assertEqual(list(steps), [])

    def test_while_the_drill_goes_on(self):
        drill = Drill(PAIR, [('key',)])
        for step in drill.possible():
            drill.do(step)
        self.assertEqual(drill.steps, [('mint', 'token'), ('mint', 'key')])
        for step in drill.possible():
            drill.do(step)
            drill.undo()
        self.assertEqual(len(drill.steps), 2)
        first, second = drill.possible(), drill.possible()
        self.assertEqual(next(first), ('send', 'app', 'token'))
        drill.do(('send', 'app', 'token'))
        self.assertEqual(list(second), [('carry', 'app', 'key'), ('retire', 'token')])
        self.assertEqual(list(first), [('carry', 'app', 'token'), ('carry', 'app', 'key')])

    def test_is_a_generator(self):
        drill = Drill(PAIR, [('key',)])
        self.assertIs(iter(steps := drill.possible()), steps)
        self.assertEqual(next(steps), ('mint', 'token'))


class Completion(WithErrors):
    def check(self, drill, world, suspicions, cost):
        found = drill.completion()
        self.assertIs(type(found), list)
        self.assertTrue(is_sound(world, suspicions, drill.steps + found))
        self.assertEqual(plan_cost(world, found), cost)

    def test_at_first_as_the_rotation(self):
        for suspicions in [[('key',)], [('token',)], [('token',), ('key',)], [('token', 'key')] * 3]:
            found = rotation(PAIR, suspicions)
            self.check(Drill(PAIR, suspicions), PAIR, suspicions, plan_cost(PAIR, found.plan))

    def test_in_the_middle(self):
        world = World.of(('a', 'x', ('y',), 2), ('a', 'y', ('x',), 3), ('b', 'x', (), 4))
        plan = [('mint', 'y'), ('mint', 'x'), ('carry', 'b', 'x'), ('carry', 'a', 'y'), ('send', 'a', 'x'),
                ('retire', 'x'), ('retire', 'y')]
        drill = Drill(world, [('x',)])
        for step, cost in zip(plan, [6, 6, 6, 2, 0, 0, 0]):
            self.check(drill, world, [('x',)], cost)
            drill.do(step)
        self.check(drill, world, [('x',)], 0)

    def test_what_was_carried_helps(self):
        world = World.of(('a', 'x', ('y',), 2), ('a', 'y', ('z',), 3), ('a', 'z', ('x',), 4))
        for use in world.uses:
            drill = Drill.after(world, [('x',)], [('mint', use[1]), ('carry', *use)])
            self.check(drill, world, [('x',)], 0)

    def test_secrets_that_are_not_exposed(self):
        drill = Drill.after(PAIR, [('token',)], [('mint', 'key'), ('carry', 'app', 'key')])
        self.check(drill, PAIR, [('token',)], 0)
        drill.do(('retire', 'key'))
        self.check(drill, PAIR, [('token',)], 0)

    def test_changes_nothing(self):
        drill = Drill.after(PAIR, [('key',)], [('mint', 'token')])
        before = snapshot(drill, PAIR, 1)
        drill.completion().clear()
        self.assertEqual(snapshot(drill, PAIR, 1), before)

    def test_can_be_executed(self):
        drill = Drill.after(PAIR, [('key',)], [('mint', 'key')])
        for step in drill.completion():
            self.assertIs(drill.do(step), True)
        self.assertIs(drill.is_done, True)

    def test_random_drills_against_all_plans(self):
        rng = seeded(31)
        seen = {}
        for _ in range(250):
            world = dense_world(rng, rng.randint(1, 2), 3, rng.randint(2, 4))
            suspicions = random_suspicions(rng, world)
            drill = Drill(world, suspicions)
            for _ in range(rng.randint(0, 6)):
                steps = list(drill.possible())
                if steps:
                    drill.do(rng.choice(steps))
            cost = model_cost(world, suspicions, drill.steps, world.uses)
            seen[cost] = seen.get(cost, 0) + 1
            if cost is None:
                self.assertIs(drill.is_lost, True)
                self.assertIsNone(drill.completion())
            else:
                self.assertIs(drill.is_lost, False)
                self.check(drill, world, suspicions, cost)
        self.assertTrue(len(seen) > 5 and seen[None] > 20, seen)

    def test_largest_inputs(self):
        world = largest_world()
        rng = seeded(32)
        lost = 0
        for suspicions in [[EVERYTHING] * 3, [('u', 'v'), ('w', 'x'), ('y', 'z')], [('u',), ('v', 'x'), ('z',)]]:
            drill = Drill(world, suspicions)
            for _ in range(24):
                if drill.is_lost:
                    lost += 1
                    drill.undo()
                self.assertTrue(is_sound(world, suspicions, drill.steps + drill.completion()))
                steps = list(drill.possible())
                if steps:
                    drill.do(rng.choice(steps))
        self.assertTrue(lost)


class RandomDrills(unittest.TestCase):
    def check(self, drill, world, suspicions, plan):
        fault = model_fault(world, suspicions, plan)
        known = [model_knows(world, suspicion, plan) for suspicion in suspicions]
        self.assertEqual(drill.steps, plan)
        self.assertIs(drill.is_done, fault is None)
        self.assertIs(drill.is_lost, any(version == 'new' for versions in known for _, version in versions))
        order = [(secret, version) for secret in world.secrets for version in ['old', 'new']]
        for index, versions in enumerate(known):
            self.assertEqual(drill.known(index), [pair for pair in order if pair in versions])
        for secret in world.secrets:
            minted, retired = ('mint', secret) in plan, ('retire', secret) in plan
            self.assertEqual(drill.accepted(secret), 'new' if retired else 'both' if minted else 'old')
        for use in world.uses:
            self.assertEqual(drill.version(use), 'new' if model_has_new(plan, use) else 'old')
        steps = [('mint', secret) for secret in world.secrets]
        steps += [(word, *use) for use in world.uses for word in ['send', 'carry']]
        steps += [('retire', secret) for secret in world.secrets]
        self.assertEqual(list(drill.possible()), [step for step in steps if not model_refused(world, plan, step)])

    def test_against_the_model(self):
        rng = seeded(33)
        seen = {'lost': 0, 'done': 0, 'loud': 0, 'undone': 0}
        for _ in range(120):
            world = dense_world(rng, rng.randint(1, 3), 4, rng.randint(1, 7))
            suspicions = random_suspicions(rng, world)
            drill, plan = Drill(world, suspicions), []
            for _ in range(25):
                steps = [step for step in all_steps(world) if not model_refused(world, plan, step)]
                if plan and (not steps or rng.random() < 0.2):
                    self.assertEqual(drill.undo(), plan.pop())
                    seen['undone'] += 1
                else:
                    before = [model_knows(world, suspicion, plan) for suspicion in suspicions]
                    plan.append(rng.choice(steps))
                    quiet = before == [model_knows(world, suspicion, plan) for suspicion in suspicions]
                    self.assertIs(drill.do(plan[-1]), quiet)
                    seen['loud'] += not quiet
                self.check(drill, world, suspicions, plan)
                seen['lost'] += drill.is_lost
                seen['done'] += drill.is_done
        self.assertTrue(min(seen.values()) > 50, seen)

    def test_after(self):
        rng = seeded(34)
        for _ in range(30):
            world = dense_world(rng, 2, 4, 6)
            suspicions = random_suspicions(rng, world)
            plan = rotation(world, suspicions).plan
            drill = Drill.after(world, suspicions, plan)
            self.check(drill, world, suspicions, plan)
            self.assertIs(drill.is_done, True)
            self.check(Drill.after(world, tuple(suspicions), tuple(plan)), world, suspicions, plan)


class Conventions(unittest.TestCase):
    def test_arguments_are_neither_modified_nor_kept(self):
        suspicions, plan = [('token',)], list(SENT)
        drill = Drill.after(PAIR, suspicions, plan)
        self.assertEqual([suspicions, plan], [[('token',)], SENT])
        suspicions[0] = ('key',)
        suspicions.append(('key',))
        plan.clear()
        self.assertEqual([drill.steps, drill.known(0), drill.is_done], [SENT, [('token', 'old')], True])
        drill.undo()
        self.assertEqual([drill.steps, drill.known(0), drill.is_lost], [SENT[:2], [('token', 'old')], False])
        suspicions = [('token',)]
        drill = Drill(PAIR, suspicions)
        suspicions.clear()
        drill.do(('mint', 'token'))
        self.assertEqual(drill.known(0), [('token', 'old')])

    def test_returned_lists_are_new(self):
        drill = Drill.after(PAIR, [('token',)], SENT)
        before = snapshot(drill, PAIR, 1)
        for items in [drill.steps, drill.known(0), drill.completion()]:
            self.assertIs(type(items), list)
            items.append(None)
        drill.steps.clear()
        drill.known(0).clear()
        self.assertEqual(snapshot(drill, PAIR, 1), before)
        self.assertEqual(drill.known(0), [('token', 'old')])
        self.assertEqual(drill.steps, SENT)
        drill.undo()
        self.assertEqual(drill.steps, SENT[:2])

    def test_drills_are_apart(self):
        first, second = Drill(PAIR, [('token',)]), Drill(PAIR, [('token',)])
        first.do(('mint', 'token'))
        self.assertEqual([second.steps, second.accepted('token')], [[], 'old'])

    def test_kinds_of_values(self):
        drill = Drill(PAIR, [('key',)])
        self.assertIs(type(drill.do(('mint', 'token'))), bool)
        self.assertEqual([type(drill.is_lost), type(drill.is_done)], [bool, bool])
        self.assertEqual([type(pair) for pair in drill.known(0)], [tuple, tuple])
        self.assertEqual(drill.undo(), ('mint', 'token'))

    def test_properties_and_methods_of_this_class(self):
        self.assertEqual(Drill.__module__, "rotatesafe.drills")
        for name in ["steps", "is_lost", "is_done"]:
            self.assertIsInstance(vars(Drill)[name], property)
        for name in ["__init__", "do", "undo", "accepted", "version", "known", "possible", "completion"]:
            self.assertTrue(callable(vars(Drill)[name]))
        self.assertIsInstance(vars(Drill)["after"], classmethod)


if __name__ == "__main__":
    unittest.main()
