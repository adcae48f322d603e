"""Promises [1], [6] and [7]: the interface's rotatesafe/rotations.py."""

import itertools
import unittest

from rotatesafe.errors import BadKnot, BadSuspicion, BadUse, BadWorld
from rotatesafe.exposure import needed
from rotatesafe.plans import is_sound, plan_cost
from rotatesafe.rotations import Rotation, is_enough, is_knot, rotation
from rotatesafe.worlds import World
from support import (NO_SUSPICIONS, NO_WORLDS, ODD_VALUES, Same, WithErrors, dense_world, model_cost, model_is_knot,
                     model_leaks, model_needed, random_suspicions, random_world, seeded, small_world, sublists, total)

TOKEN, KEY, DB = ('app', 'token'), ('app', 'key'), ('db', 'key')
# The world of the example: channels that protect one another, and a use without a channel.
MUTUAL = World.of(('app', 'token', ('key',), 3), ('app', 'key', ('token',), 5), ('db', 'key', (), 2))
# Two secrets that protect a channel together.
DOUBLE = World.of(('a', 't', ('x', 'y'), 1), ('a', 'x', (), 2), ('a', 'y', ('x',), 3))
# Three secrets that protect one another in a circle, each courier with the same cost.
CIRCLE = World.of(('a', 'x', ('y',), 2), ('a', 'y', ('z',), 2), ('a', 'z', ('x',), 2))
LARGEST = World.of(*[(service, secret, channel, cost) for service, cost in [('a', 2), ('b', 1)]
                     for secret, channel in [('u', ('v', 'w', 'x')), ('v', ('u', 'w')), ('w', ('x', 'y')),
                                             ('x', ('w', 'z')), ('y', ('z',)), ('z', ('y',))]])
EVERYTHING = tuple('uvwxyz')


def wrong_choices(world, uses):
    """Return what is no list or tuple of different ones of at least two uses, in order."""
    others = [use for use in world.uses if use not in uses]
    wrong = [value for value in ODD_VALUES if value not in ([], ())]
    wrong += [[value] for value in ODD_VALUES] + [[uses[0], value] for value in ODD_VALUES]
    wrong += [[uses[1], uses[0]], [uses[0], uses[0]], [uses[0], uses[1], uses[0]], uses[0], list(uses[0]), [[uses[0]]],
              [list(uses[0])], {uses[0]: 1}, {uses[0]}, iter([uses[0]]), "ab", [('app', 'salt')], [('web', 'key')],
              [uses[0][::-1]], ['key'], [(Same(), Same())], [('app', Same())], [(*uses[0], 'x')]]
    return wrong + [[use] for use in others] + [(uses[0], use) for use in others]


class Refusals(WithErrors):
    def test_worlds(self):
        for value in NO_WORLDS:
            for function, *rest in [(is_enough, [KEY]), (is_knot, [KEY]), (rotation,)]:
                self.assertIsNone(self.refused(BadWorld, function, value, [('key',)], *rest).part)
            self.assertIsNone(self.refused(BadWorld, rotation(MUTUAL, [('key',)]).shows, value, [('key',)]).part)

    def test_suspicions(self):
        for value in NO_SUSPICIONS:
            for function, *rest in [(is_enough, [KEY]), (is_knot, [KEY]), (rotation,)]:
                self.refused(BadSuspicion, function, small_world(), value, *rest)
            self.refused(BadSuspicion, rotation(MUTUAL, [('key',)]).shows, small_world(), value)

    def test_uses(self):
        world = World.of(('app', 'token', (), 3), ('app', 'key', (), 5), ('db', 'key', (), 2), ('db', 'pin', (), 2))
        for suspicion in [('token', 'key'), ('key',)]:
            for value in wrong_choices(world, needed(world, [suspicion])):
                self.refused(BadUse, is_enough, world, [suspicion], value)
                self.refused(BadKnot, is_knot, world, [suspicion], value)

    def test_at_least_one_use_of_a_knot(self):
        self.refused(BadKnot, is_knot, MUTUAL, [('key',)], [])
        self.refused(BadKnot, is_knot, MUTUAL, [('key',)], ())
        self.assertFalse(is_enough(MUTUAL, [('key',)], []))
        self.assertFalse(is_enough(MUTUAL, [('key',)], ()))

    def test_every_order_and_repetition(self):
        right = sublists(MUTUAL.uses)
        for length in range(5):
            for uses in itertools.product(MUTUAL.uses, repeat=length):
                if list(uses) in right:
                    self.assertIs(type(is_enough(MUTUAL, [('key',)], uses)), bool)
                else:
                    self.refused(BadUse, is_enough, MUTUAL, [('key',)], uses)
                    self.refused(BadKnot, is_knot, MUTUAL, [('key',)], list(uses))

    def test_what_is_documented_first_is_raised(self):
        for function in [is_enough, is_knot]:
            self.refused(BadWorld, function, None, None, None)
            self.refused(BadSuspicion, function, MUTUAL, [], None)
        self.refused(BadWorld, rotation, MUTUAL.uses, [])
        self.refused(BadWorld, rotation(MUTUAL, [('key',)]).shows, None, [])

    def test_refused_calls_change_nothing(self):
        found = rotation(MUTUAL, [('key',)])
        self.refused(BadSuspicion, found.shows, MUTUAL, [])
        self.assertEqual(found, rotation(MUTUAL, [('key',)]))


class Enough(unittest.TestCase):
    def check(self, world, suspicions, smallest):
        """Check for all lists of needed uses whether they contain one of the smallest that are enough."""
        for uses in sublists(needed(world, suspicions)):
            expected = any(set(some) <= set(uses) for some in smallest)
            self.assertIs(is_enough(world, suspicions, uses), expected, uses)
            self.assertIs(is_enough(world, suspicions, tuple(uses)), expected, uses)

    def test_example(self):
        self.check(MUTUAL, [('key',)], [[TOKEN, DB], [KEY, DB]])
        self.check(MUTUAL, [('token',)], [[TOKEN, DB], [KEY, DB]])

    def test_empty_set(self):
        self.check(small_world(), [('token',)], [[]])
        world = World.of(('a', 't', ('x', 'y'), 1), ('a', 'x', ('y',), 2), ('a', 'y', ('t',), 3))
        self.check(world, [('x',)], [[]])

    def test_needed_use_with_an_empty_channel(self):
        self.check(small_world(), [('key',)], [[KEY, DB]])
        self.check(World.of(('a', 'x', (), 1)), [('x',)], [[('a', 'x')]])

    def test_channels_in_a_circle(self):
        self.check(CIRCLE, [('x',)], [[use] for use in CIRCLE.uses])

    def test_secrets_that_protect_a_channel_together(self):
        self.check(DOUBLE, [('x',)], [[('a', 'x')]])
        self.check(DOUBLE, [('x', 'y')], [[('a', 'x')]])
        self.check(DOUBLE, [('y',)], [[]])
        world = World.of(('a', 'x', ('y', 'z'), 1), ('a', 'y', ('x', 'z'), 1), ('a', 'z', ('x', 'y'), 1))
        self.check(world, [('x', 'y', 'z')], [[use] for use in world.uses])
        self.check(world, [('x',), ('y',), ('z',)], [[]])
        self.check(world, [('x', 'y'), ('y',), ('z',)], [[use] for use in world.uses])

    def test_outsiders_do_not_cooperate(self):
        world = World.of(('a', 't', ('x', 'y'), 1), ('a', 'x', (), 2), ('a', 'y', (), 3), ('b', 't', ('x',), 1),
                         ('b', 'x', (), 2))
        self.check(world, [('x',), ('y',)], [[('a', 'x'), ('a', 'y'), ('b', 'x')]])
        self.check(world, [('t',), ('t',)], [[]])

    def test_other_services_do_not_help(self):
        world = World.of(('a', 'x', ('y',), 1), ('a', 'y', ('x',), 1), ('b', 'x', ('y',), 1), ('b', 'y', ('x',), 1))
        self.check(world, [('x',)], [[first, second] for first in world.uses[:2] for second in world.uses[2:]])

    def test_order_of_messages(self):
        # The courier brings w; from there each message is protected by the one before it.
        world = World.of(('a', 'z', ('y',), 1), ('a', 'y', ('x',), 1), ('a', 'x', ('w',), 1), ('a', 'w', ('z',), 1))
        self.check(world, [('w',)], [[use] for use in world.uses])

    def test_against_all_plans(self):
        rng = seeded(21)
        seen = {True: 0, False: 0}
        for number in range(120):
            world = random_world(rng, 2, 4, 4) if number % 4 else dense_world(rng, 1, 4, 4)
            suspicions = random_suspicions(rng, world)
            for uses in sublists(model_needed(world, suspicions)):
                expected = model_cost(world, suspicions, [], uses) is not None
                seen[expected] += 1
                self.assertIs(is_enough(world, suspicions, uses), expected, (world.uses, suspicions, uses))
        self.assertTrue(min(seen.values()) > 100, seen)


class Knots(unittest.TestCase):
    def check(self, world, suspicions, knots):
        for uses in sublists(needed(world, suspicions))[1:]:
            self.assertIs(is_knot(world, suspicions, uses), uses in knots, uses)
            self.assertIs(is_knot(world, suspicions, tuple(uses)), uses in knots, uses)

    def test_example(self):
        self.check(MUTUAL, [('key',)], [[TOKEN, KEY], [DB], [TOKEN, KEY, DB]])

    def test_needed_use_with_an_empty_channel(self):
        self.check(small_world(), [('key',)], [[KEY], [DB], [KEY, DB], [TOKEN, KEY], [TOKEN, KEY, DB]])
        self.check(small_world(), [('token',)], [])

    def test_circle(self):
        self.check(CIRCLE, [('x',)], [CIRCLE.uses])

    def test_all_secrets_of_a_channel_are_in_the_knot(self):
        world = World.of(('a', 't', ('x', 'y', 'z'), 1), ('a', 'x', ('t',), 1), ('a', 'y', ('t',), 1),
                         ('a', 'z', ('t',), 1))
        self.check(world, [('t',)], [world.uses])
        self.check(world, [('x', 'y', 'z')], [world.uses])
        self.check(world, [('x',)], [])

    def test_each_use_may_have_a_suspicion_of_its_own(self):
        world = World.of(('a', 'x', ('y',), 1), ('a', 'y', (), 1), ('b', 'z', (), 1), ('b', 'w', ('z',), 1))
        knots = [[('a', 'y')], [('a', 'x'), ('a', 'y')], [('b', 'z')], [('b', 'z'), ('b', 'w')]]
        both = [first + second for first in knots[:2] for second in knots[2:]]
        self.check(world, [('y',), ('z',)], knots + both)
        self.check(world, [('y', 'z')], knots + both)
        self.check(world, [('z',), ('y',), ('x',)], knots + both)

    def test_one_suspicion_exposes_the_whole_channel(self):
        rows = [('a', 't', ('x', 'y'), 1), ('a', 'x', (), 1), ('a', 'y', (), 1), ('b', 't', (), 1)]
        world = World.of(*rows)
        apart, carried = [('x',), ('y',), ('t',)], [('a', 'x'), ('a', 'y'), ('b', 't')]
        self.check(world, apart, [list(uses) for uses in sublists(carried)[1:]])
        self.assertTrue(is_knot(world, [('x', 'y')], [('a', 't'), ('a', 'x'), ('a', 'y')]))
        self.assertFalse(is_knot(world, apart, [('a', 't'), ('a', 'x'), ('a', 'y')]))

    def test_use_of_the_same_service(self):
        world = World.of(('a', 'x', ('y',), 1), ('a', 'y', ('x',), 1), ('b', 'y', ('z',), 1), ('b', 'z', (), 1))
        self.check(world, [('y',)], [[('a', 'x'), ('a', 'y')]])

    def test_against_the_words(self):
        rng = seeded(22)
        seen = {True: 0, False: 0}
        for _ in range(600):
            world = dense_world(rng, 2, 4, rng.randint(2, 7))
            suspicions = random_suspicions(rng, world)
            leaks = model_leaks(world, suspicions)
            for uses in sublists(model_needed(world, suspicions))[1:]:
                expected = model_is_knot(world, leaks, uses)
                seen[expected] += 1
                self.assertIs(is_knot(world, suspicions, uses), expected)
        self.assertTrue(min(seen.values()) > 1000, seen)


def model_rotation_cost(world, suspicions):
    """Return the least cost and the first list of it that meets all knots, from all lists of needed uses."""
    wanted, leaks = model_needed(world, suspicions), model_leaks(world, suspicions)
    knots = [set(uses) for uses in sublists(wanted) if model_is_knot(world, leaks, uses)]
    found = [(total(world, uses), [world.uses.index(use) for use in uses], uses)
             for uses in sublists(wanted) if all(knot & set(uses) for knot in knots)]
    return min(found)[0], min(found)[2]


class Rotations(unittest.TestCase):
    def check(self, world, suspicions, carried):
        found = rotation(world, suspicions)
        self.assertEqual(found.carried, carried)
        self.assertIs(type(found), Rotation)
        self.assertIsNone(self.fault(world, suspicions, found))
        self.assertIs(found.shows(world, suspicions), True)
        return found

    def fault(self, world, suspicions, found):
        """Return what is wrong with a rotation, by the words of the document."""
        wanted, leaks = model_needed(world, suspicions), model_leaks(world, suspicions)
        if not is_sound(world, suspicions, found.plan):
            return "plan"
        if sorted(('carry', *use) for use in found.carried) != sorted(s for s in found.plan if s[0] == 'carry'):
            return "carried"
        if found.carried != [use for use in wanted if use in found.carried]:
            return "order"
        for knot in found.knots:
            in_order = [use for use in wanted if use in knot]
            if knot != in_order or not model_is_knot(world, leaks, knot):
                return "knot"
        for uses in sublists(wanted):
            if all(set(knot) & set(uses) for knot in found.knots) and total(world, uses) < total(world, found.carried):
                return "cheaper"
        return None

    def test_example(self):
        found = self.check(MUTUAL, [('key',)], [TOKEN, DB])
        self.assertEqual(len(found.plan), 7)
        self.assertEqual(plan_cost(MUTUAL, found.plan), 5)

    def test_nothing_is_carried(self):
        found = self.check(small_world(), [('token',)], [])
        self.assertEqual(found.knots, [])
        self.assertEqual(plan_cost(small_world(), found.plan), 0)
        self.check(DOUBLE, [('y',)], [])

    def test_single_use(self):
        found = self.check(World.of(('a', 'x', (), 9)), [('x',)], [('a', 'x')])
        self.assertEqual(found.knots, [[('a', 'x')]])
        self.assertEqual(found.plan, [('mint', 'x'), ('carry', 'a', 'x'), ('retire', 'x')])

    def test_first_of_the_same_cost(self):
        self.check(CIRCLE, [('x',)], [('a', 'x')])
        self.check(CIRCLE, [('y',)], [('a', 'x')])
        world = World.of(('a', 'z', ('x',), 3), ('a', 'x', ('y',), 2), ('a', 'y', ('z',), 2))
        self.check(world, [('z',)], [('a', 'x')])

    def test_first_of_several_services_at_once(self):
        rows = [(service, secret, (other,), 4) for secret, other in [('x', 'y'), ('y', 'x')] for service in 'abc']
        self.check(World.of(*rows), [('x',)], [('a', 'x'), ('b', 'x'), ('c', 'x')])

    def test_cheaper_later_uses(self):
        world = World.of(('a', 'x', ('y',), 3), ('a', 'y', ('z',), 2), ('a', 'z', ('x',), 1))
        self.check(world, [('x',)], [('a', 'z')])

    def test_one_courier_for_knots_that_lie_in_one_another(self):
        # The circle of x and y is a knot, also with z and with w, that follow from it.
        rows = [('a', 'w', ('z',), 1), ('a', 'z', ('x', 'y'), 1), ('a', 'y', ('x',), 8), ('a', 'x', ('y',), 7)]
        found = self.check(World.of(*rows), [('x',)], [('a', 'x')])
        self.assertEqual(plan_cost(World.of(*rows), found.plan), 7)

    def test_a_use_that_is_not_protected_by_a_circle_alone(self):
        rows = [('a', 'w', ('x', 'u'), 1), ('a', 'x', ('y',), 3), ('a', 'y', ('x',), 2), ('a', 'u', ('v',), 3),
                ('a', 'v', ('u',), 3)]
        self.check(World.of(*rows), [('x', 'u')], [('a', 'y'), ('a', 'u')])

    def test_order_of_the_world_not_of_the_costs(self):
        rows = [('a', 'x', (), 9), ('b', 'y', (), 1), ('c', 'x', (), 5), ('a', 'y', (), 2)]
        self.check(World.of(*rows), [('x', 'y')], [('a', 'x'), ('b', 'y'), ('c', 'x'), ('a', 'y')])

    def test_different_suspicions(self):
        world = World.of(('a', 't', ('x', 'y'), 1), ('a', 'x', ('t',), 2), ('a', 'y', ('t',), 3))
        self.check(world, [('x',), ('y',)], [])
        self.check(world, [('x', 'y')], [('a', 't')])
        self.check(world, [('x',), ('y',), ('t',)], [('a', 't')])
        self.check(world, [('x', 'y'), ('x', 'y'), ('x',)], [('a', 't')])

    def test_equal_suspicions(self):
        one = self.check(MUTUAL, [('key',)], [TOKEN, DB])
        self.assertEqual(one, self.check(MUTUAL, [('key',)] * 3, [TOKEN, DB]))
        self.assertEqual(one, self.check(MUTUAL, (('key',), ('key',)), [TOKEN, DB]))

    def test_secrets_that_are_not_exposed_stay(self):
        for step in rotation(small_world(), [('token',)]).plan:
            self.assertEqual(step[-1], 'token')

    def test_random_worlds(self):
        rng = seeded(23)
        sizes = [0] * 8
        for _ in range(700):
            world = dense_world(rng, rng.randint(1, 4), 5, rng.randint(1, 9))
            suspicions = random_suspicions(rng, world)
            cost, carried = model_rotation_cost(world, suspicions)
            found = self.check(world, suspicions, carried)
            self.assertEqual(plan_cost(world, found.plan), cost)
            sizes[len(carried)] += 1
        self.assertTrue(min(sizes[:5]) > 10, sizes)

    def test_against_all_plans(self):
        rng = seeded(24)
        for _ in range(150):
            world = dense_world(rng, 2, 3, rng.randint(2, 5))
            suspicions = random_suspicions(rng, world)
            cost = model_cost(world, suspicions, [], world.uses)
            self.assertEqual(total(world, rotation(world, suspicions).carried), cost)

    def test_largest_inputs(self):
        for suspicions in [[EVERYTHING], [EVERYTHING] * 3, [('u', 'v'), ('y',), ('w', 'z')], [('w', 'y')]]:
            found = rotation(LARGEST, suspicions)
            self.assertIsNone(self.fault(LARGEST, suspicions, found))
            self.assertTrue(found.shows(LARGEST, suspicions))
        # A new y protects z, that protects x, and so on: one courier for each service.
        self.check(LARGEST, [EVERYTHING], [('a', 'y'), ('b', 'y')])
        world = World.of(*[(service, secret, (), 9) for service in 'ab' for secret in EVERYTHING])
        found = self.check(world, [EVERYTHING] * 3, world.uses)
        self.assertEqual(plan_cost(world, found.plan), 108)

    def test_random_largest_worlds(self):
        rng = seeded(25)
        for _ in range(4):
            world = dense_world(rng, rng.randint(2, 4), 6, 12)
            suspicions = [tuple(secret for secret in world.secrets if rng.random() < 0.6) or (world.secrets[0],)
                          for _ in range(3)]
            found = rotation(world, suspicions)
            self.assertIsNone(self.fault(world, suspicions, found))
            self.assertTrue(found.shows(world, suspicions))
            firsts = [uses for uses in sublists(needed(world, suspicions)) if is_enough(world, suspicions, uses)]
            least = min((total(world, uses), [world.uses.index(use) for use in uses]) for uses in firsts)
            self.assertEqual([world.uses.index(use) for use in found.carried], least[1])


SHOWN = rotation(MUTUAL, [('key',)])


class Shows(unittest.TestCase):
    def shows(self, expected, carried=None, plan=None, knots=None, world=MUTUAL, suspicions=(('key',),)):
        some = Rotation(SHOWN.carried if carried is None else carried, SHOWN.plan if plan is None else plan,
                        SHOWN.knots if knots is None else knots)
        self.assertIs(some.shows(world, list(suspicions)), expected)
        self.assertIs(some.shows(world, tuple(suspicions)), expected)

    def plan(self, *carried):
        """Return a plan of MUTUAL with couriers to some uses, and messages to the others with a channel."""
        carries = [('carry', *use) for use in carried]
        sends = [('send', *use) for use in [TOKEN, KEY] if use not in carried]
        return [('mint', 'token'), ('mint', 'key'), *carries, *sends, ('retire', 'token'), ('retire', 'key')]

    def test_what_rotation_returns(self):
        self.shows(True)

    def test_not_for_another_world_or_other_suspicions(self):
        self.shows(True, suspicions=[('token',)])
        self.shows(True, suspicions=[('token',), ('key',)])
        self.shows(False, world=small_world())
        world = World.of(('app', 'token', ('key',), 6), ('app', 'key', ('token',), 5), ('db', 'key', (), 2))
        self.shows(False, world=world)

    def test_carried_and_plan(self):
        self.shows(True, plan=self.plan(DB, TOKEN))
        self.shows(True, plan=tuple(self.plan(TOKEN, DB)))
        self.shows(False, carried=[KEY, DB])
        self.shows(False, plan=self.plan(KEY, DB))
        self.shows(False, carried=[TOKEN])
        self.shows(False, carried=[TOKEN, KEY, DB])
        self.shows(False, carried=[])
        self.shows(False, plan=self.plan(TOKEN, KEY, DB))
        self.shows(False, plan=[])

    def test_not_the_cheapest(self):
        self.shows(False, carried=[KEY, DB], plan=self.plan(KEY, DB))
        self.shows(False, carried=[TOKEN, KEY, DB], plan=self.plan(TOKEN, KEY, DB))
        self.shows(False, carried=[TOKEN, KEY, DB], plan=self.plan(TOKEN, KEY, DB), knots=[[TOKEN], [KEY], [DB]])

    def test_need_not_be_the_first_one(self):
        plans = {use: [('mint', 'x'), ('mint', 'y'), ('mint', 'z'), ('carry', *use)] for use in CIRCLE.uses}
        order = {'x': 'zy', 'y': 'xz', 'z': 'yx'}
        for use, plan in plans.items():
            plan += [('send', 'a', secret) for secret in order[use[1]]] + [('retire', secret) for secret in 'xyz']
            self.shows(True, [use], plan, [CIRCLE.uses], CIRCLE, [('y',)])
            self.shows(False, [use], plan, [], CIRCLE, [('y',)])

    def test_plan_that_is_not_sound(self):
        self.shows(False, plan=SHOWN.plan[:-1])
        self.shows(False, plan=SHOWN.plan + [('mint', 'key')])
        self.shows(False, plan=SHOWN.plan[::-1])
        sends = [('mint', 'token'), ('mint', 'key'), ('send', 'app', 'key'), ('carry', 'app', 'token'),
                 ('carry', 'db', 'key'), ('retire', 'token'), ('retire', 'key')]
        self.shows(False, plan=sends)

    def test_plan_that_carries_what_is_not_needed(self):
        world = small_world()
        plan = [('mint', 'token'), ('send', *TOKEN), ('retire', 'token')]
        self.shows(True, [], plan, [], world, [('token',)])
        self.shows(True, [], plan + [('mint', 'key')], [], world, [('token',)])
        self.shows(False, [], plan + [('mint', 'key'), ('carry', *DB)], [], world, [('token',)])
        self.shows(False, [DB], plan + [('mint', 'key'), ('carry', *DB)], [], world, [('token',)])

    def test_knots(self):
        self.shows(True, knots=[[DB], [TOKEN, KEY]])
        self.shows(True, knots=[[DB], [DB], [TOKEN, KEY], [TOKEN, KEY, DB]])
        self.shows(False, knots=[[DB], [KEY, TOKEN]])
        self.shows(False, knots=[[TOKEN, KEY]])
        self.shows(False, knots=[[DB]])
        self.shows(False, knots=[[TOKEN, KEY, DB]])
        self.shows(False, knots=[])

    def test_what_is_no_knot(self):
        for wrong in [[], [TOKEN], [KEY], [TOKEN, DB], [TOKEN, TOKEN, KEY], [KEY, TOKEN], [DB, DB]]:
            self.shows(False, knots=SHOWN.knots + [wrong])
            self.shows(False, knots=[wrong] + SHOWN.knots)
        world = World.of(('a', 'x', (), 1), ('b', 'y', (), 2))
        carried, plan = [('a', 'x')], [('mint', 'x'), ('carry', 'a', 'x'), ('retire', 'x')]
        self.shows(True, carried, plan, [carried], world, [('x',)])
        for wrong in [[('b', 'y')], [('a', 'x'), ('b', 'y')]]:
            self.shows(False, carried, plan, [carried, wrong], world, [('x',)])

    def test_nothing_carried_and_no_knots(self):
        found = rotation(small_world(), [('token',)])
        self.shows(True, found.carried, found.plan, [], small_world(), [('token',)])
        self.shows(False, found.carried, found.plan, [[TOKEN]], small_world(), [('token',)])

    def test_knots_that_share_uses(self):
        # Three knots of two uses each: two of the three uses must be carried.
        world = World.of(*[('abc'[place], name, (other,), 1) for place, pair in enumerate(['xy', 'yz', 'xz'])
                           for name, other in [pair, pair[::-1]]])
        found = rotation(world, [('x', 'y', 'z')])
        self.assertEqual(total(world, found.carried), 3)
        self.shows(True, found.carried, found.plan, found.knots, world, [('x', 'y', 'z')])
        for place in range(3):
            knots = found.knots[:place] + found.knots[place + 1:]
            self.shows(False, found.carried, found.plan, knots, world, [('x', 'y', 'z')])

    def test_current_attributes(self):
        some = rotation(MUTUAL, [('key',)])
        some.knots.append([TOKEN, KEY, DB])
        self.assertTrue(some.shows(MUTUAL, [('key',)]))
        some.knots[-1].pop()
        some.knots[-1].pop()
        self.assertFalse(some.shows(MUTUAL, [('key',)]))
        some.knots.pop()
        self.assertTrue(some.shows(MUTUAL, [('key',)]))
        last = some.plan.pop()
        self.assertFalse(some.shows(MUTUAL, [('key',)]))
        some.plan.append(last)
        some.carried = [KEY, DB]
        self.assertFalse(some.shows(MUTUAL, [('key',)]))

    def test_random_attributes(self):
        rng = seeded(26)
        seen = {True: 0, False: 0}
        for _ in range(700):
            world = dense_world(rng, rng.randint(1, 2), 4, rng.randint(2, 6))
            suspicions = random_suspicions(rng, world)
            wanted = model_needed(world, suspicions)
            found = rotation(world, suspicions)
            leaks = model_leaks(world, suspicions)
            knots = [uses for uses in sublists(wanted) if model_is_knot(world, leaks, uses)]
            knots = rng.sample(knots, min(len(knots), rng.randint(0, 4)))
            least = min(total(world, uses) for uses in sublists(wanted)
                        if all(set(uses) & set(knot) for knot in knots))
            expected = least >= total(world, found.carried)
            seen[expected] += 1
            self.assertIs(Rotation(found.carried, found.plan, knots).shows(world, suspicions), expected)
        self.assertTrue(min(seen.values()) > 100, seen)

    def test_many_knots(self):
        world = World.of(*[(service, secret, (), 9) for service in 'ab' for secret in EVERYTHING])
        found = rotation(world, [EVERYTHING])
        every = sublists(world.uses)[1:]
        for knots, expected in [(every, True), (every[::-1], True), (every[12:], False), (every[1:], False)]:
            self.shows(expected, found.carried, found.plan, knots, world, [EVERYTHING])


class Objects(unittest.TestCase):
    def test_attributes(self):
        some = Rotation([KEY], [('mint', 'key')], [[KEY], [DB]])
        self.assertEqual(vars(some), {'carried': [KEY], 'plan': [('mint', 'key')], 'knots': [[KEY], [DB]]})
        some = Rotation(carried=[], plan=[], knots=[])
        self.assertEqual([some.carried, some.plan, some.knots], [[], [], []])

    def test_lists_are_copied(self):
        carried, plan, knots = [KEY], [('mint', 'key')], [[KEY], [DB]]
        some = Rotation(carried, plan, knots)
        carried.append(DB)
        plan.clear()
        knots[0].append(DB)
        knots.pop()
        self.assertEqual(some, Rotation([KEY], [('mint', 'key')], [[KEY], [DB]]))
        some.knots[1].clear()
        some.plan.append(('retire', 'key'))
        self.assertEqual([carried, plan, knots], [[KEY, DB], [], [[KEY, DB]]])

    def test_equality(self):
        some = Rotation([KEY], [('mint', 'key')], [[KEY]])
        self.assertTrue(some == Rotation([KEY], [('mint', 'key')], [[KEY]]))
        self.assertFalse(some != Rotation([KEY], [('mint', 'key')], [[KEY]]))
        others = [Rotation([], [('mint', 'key')], [[KEY]]), Rotation([KEY], [], [[KEY]]), Rotation([KEY], some.plan, []),
                  Rotation([KEY], some.plan, [[DB]]), Rotation([KEY], some.plan, [[KEY], [KEY]]), None, 1, [KEY],
                  ([KEY], some.plan, [[KEY]]), MUTUAL]
        for other in others:
            self.assertFalse(some == other)
            self.assertTrue(some != other)
        other = Rotation([KEY], [('mint', 'key')], [[KEY]])
        other.plan.append(('retire', 'key'))
        self.assertFalse(some == other)

    def test_order_counts(self):
        self.assertNotEqual(Rotation([], [], [[KEY], [DB]]), Rotation([], [], [[DB], [KEY]]))


class Conventions(unittest.TestCase):
    def test_arguments_are_not_modified(self):
        suspicions, uses = [('key',), ('token',)], [TOKEN, KEY]
        is_enough(MUTUAL, suspicions, uses)
        is_knot(MUTUAL, suspicions, uses)
        rotation(MUTUAL, suspicions).shows(MUTUAL, suspicions)
        self.assertEqual([suspicions, uses], [[('key',), ('token',)], [TOKEN, KEY]])

    def test_returned_lists_are_new(self):
        first = rotation(MUTUAL, [('key',)])
        for items in [first.carried, first.plan, *first.knots, first.knots]:
            items.clear()
        self.assertEqual(rotation(MUTUAL, [('key',)]), SHOWN)
        self.assertTrue(SHOWN.shows(MUTUAL, [('key',)]))

    def test_kinds_of_values(self):
        found = rotation(MUTUAL, [('key',)])
        for items in [found.carried, found.plan, found.knots, *found.knots]:
            self.assertIs(type(items), list)
        for item in found.carried + found.plan + [use for knot in found.knots for use in knot]:
            self.assertIs(type(item), tuple)

    def test_shows_changes_nothing(self):
        before = rotation(MUTUAL, [('key',)])
        after = Rotation(before.carried, before.plan, before.knots)
        after.shows(MUTUAL, [('key',)])
        after.shows(small_world(), [('token',)])
        self.assertEqual(before, after)

    def test_defined_in_this_file(self):
        for function in [is_enough, is_knot, rotation, Rotation]:
            self.assertEqual(function.__module__, "rotatesafe.rotations")
        for name in ["__init__", "__eq__", "shows"]:
            self.assertIn(name, vars(Rotation))


if __name__ == "__main__":
    unittest.main()
