"""Promises [1] and [3]: the interface's rotatesafe/exposure.py."""

import itertools
import unittest

from rotatesafe.errors import BadSecret, BadSuspicion, BadUse, BadWorld
from rotatesafe.exposure import exposed, exposure, is_exposure, needed
from rotatesafe.worlds import World
from support import (ODD_VALUES, Same, WithErrors, model_exposed, model_exposure, model_is_exposure, random_suspicion,
                     random_world, seeded, small_world)

# Each of the first three secrets protects the next one, in another service; the last one is apart.
CHAIN = World.of(('a', 'p', (), 1), ('a', 'q', ('p',), 1), ('b', 'q', (), 1), ('b', 'r', ('q',), 1), ('b', 's', (), 1))

BAD_SUSPICIONS = ODD_VALUES + ["key", "token", ["key"], ("key", "token"), ("key", "key"), ("token", "key", "key"),
                               ("token", "key", "token"), ("salt",), ("token", "salt"), ("app",), (("token",),),
                               ("token", 1), ("token", True), ("token", ["key"]), {"token": True}, ("a" * 30,)]


class Refusals(WithErrors):
    def test_worlds(self):
        calls = [(exposed, ('key',)), (exposure, ('key',), 'key'), (is_exposure, ('key',), 'key', []),
                 (needed, [('key',)])]
        for value in ODD_VALUES + [World, {('app', 'key'): ((), 1)}, [('app', 'key', (), 1)]]:
            for function, *rest in calls:
                self.assertIsNone(self.refused(BadWorld, function, value, *rest).part)

    def test_one_suspicion(self):
        for value in BAD_SUSPICIONS + [[('key',)], (('key',),)]:
            self.refused(BadSuspicion, exposed, small_world(), value)
            self.refused(BadSuspicion, exposure, small_world(), value, 'key')
            self.refused(BadSuspicion, is_exposure, small_world(), value, 'key', [])

    def test_every_order_and_repetition_is_refused(self):
        world = World.of(*[('app', secret, (), 1) for secret in "zyx"])
        right = [('z',), ('y',), ('x',), ('z', 'y'), ('z', 'x'), ('y', 'x'), ('z', 'y', 'x')]
        for length in range(5):
            for value in itertools.product("xyz", repeat=length):
                if value in right:
                    self.assertEqual(exposed(world, value), list(value))
                else:
                    self.refused(BadSuspicion, exposed, world, value)

    def test_suspicions(self):
        for value in BAD_SUSPICIONS:
            self.refused(BadSuspicion, needed, small_world(), [value])
            self.refused(BadSuspicion, needed, small_world(), [('key',), ('token',), value])
            self.refused(BadSuspicion, needed, small_world(), (('key',), value))
        for value in ODD_VALUES + [('key',), ['key'], {('key',): 1}, {('key',)}, "key"]:
            self.refused(BadSuspicion, needed, small_world(), value)

    def test_number_of_suspicions(self):
        world = small_world()
        for count in range(1, 4):
            self.assertEqual(needed(world, [('token',)] * count), [('app', 'token')])
            self.assertEqual(needed(world, (('token',),) * count), [('app', 'token')])
        for count in [0, 4, 5]:
            self.refused(BadSuspicion, needed, world, [('token',)] * count)
            self.refused(BadSuspicion, needed, world, (('token',),) * count)

    def test_secrets(self):
        for value in ODD_VALUES + ["salt", "app", ("key",), ["key"]]:
            self.refused(BadSecret, exposure, small_world(), ('key',), value)
            self.refused(BadSecret, is_exposure, small_world(), ('key',), value, [])

    def test_uses(self):
        world = small_world()
        for value in ODD_VALUES:
            if value != [] and value != ():
                self.refused(BadUse, is_exposure, world, ('key',), 'key', value)
            self.refused(BadUse, is_exposure, world, ('key',), 'key', [('app', 'token'), value])
        for value in [('app', 'token'), "ab", {('app', 'token'): 1}, {('app', 'token')}, iter([])]:
            self.refused(BadUse, is_exposure, world, ('key',), 'key', value)
        for value in [('db', 'token'), ['app', 'token'], ('token', 'app'), 'key', ('app', 'token', 'x')]:
            self.refused(BadUse, is_exposure, world, ('key',), 'key', [value])
            self.refused(BadUse, is_exposure, world, ('key',), 'key', (('app', 'token'), value))

    def test_uses_behind_one_that_reveals_nothing(self):
        for value in ODD_VALUES + [('db', 'token')]:
            self.refused(BadUse, is_exposure, small_world(), ('token',), 'key', [('app', 'key'), value])

    def test_what_equals_everything_is_no_secret(self):
        world = small_world()
        self.refused(BadSuspicion, exposed, world, (Same(),))
        self.refused(BadSuspicion, exposed, world, ('token', Same()))
        self.refused(BadSuspicion, needed, world, [(Same(),)])
        self.refused(BadSecret, exposure, world, ('key',), Same())
        self.refused(BadUse, is_exposure, world, ('key',), 'key', [('app', Same())])

    def test_what_is_documented_first_is_raised(self):
        world = small_world()
        for function, *rest in [(exposed, 0), (exposure, 0, 0), (is_exposure, 0, 0, 0), (needed, 0)]:
            self.refused(BadWorld, function, None, *rest)
        for function, *rest in [(exposure, 0), (is_exposure, 0, 0)]:
            self.refused(BadSuspicion, function, world, (), *rest)
        self.refused(BadSecret, is_exposure, world, ('key',), 'salt', [None])


class Exposed(unittest.TestCase):
    def test_example_world(self):
        world = small_world()
        self.assertEqual(exposed(world, ('token',)), ['token'])
        self.assertEqual(exposed(world, ('key',)), ['token', 'key'])
        self.assertEqual(exposed(world, ('token', 'key')), ['token', 'key'])

    def test_chain(self):
        self.assertEqual(exposed(CHAIN, ('p',)), ['p', 'q', 'r'])
        self.assertEqual(exposed(CHAIN, ('q',)), ['q', 'r'])
        self.assertEqual(exposed(CHAIN, ('r',)), ['r'])
        self.assertEqual(exposed(CHAIN, ('s',)), ['s'])
        self.assertEqual(exposed(CHAIN, ('p', 's')), ['p', 'q', 'r', 's'])

    def test_chain_against_the_order_of_the_world(self):
        world = World.of(('a', 'r', ('q',), 1), ('a', 'q', ('p',), 1), ('a', 'p', ('o',), 1), ('a', 'o', (), 1))
        self.assertEqual(exposed(world, ('o',)), ['r', 'q', 'p', 'o'])
        self.assertEqual(exposure(world, ('o',), 'r'), [('a', 'p'), ('a', 'q'), ('a', 'r')])

    def test_all_secrets_of_a_channel_are_required(self):
        world = World.of(('a', 'x', ('y', 'z', 'w'), 1), ('a', 'y', (), 1), ('a', 'z', (), 1), ('a', 'w', (), 1))
        self.assertEqual(exposed(world, ('y', 'z')), ['y', 'z'])
        self.assertEqual(exposed(world, ('z', 'w')), ['z', 'w'])
        self.assertEqual(exposed(world, ('y', 'z', 'w')), ['x', 'y', 'z', 'w'])

    def test_one_of_several_users_is_enough(self):
        world = World.of(('a', 'x', (), 1), ('b', 'x', ('y', 'z'), 1), ('c', 'x', ('z',), 1), ('b', 'y', (), 1),
                         ('b', 'z', (), 1), ('c', 'z', (), 1))
        self.assertEqual(exposed(world, ('z',)), ['x', 'z'])
        self.assertEqual(exposed(world, ('y',)), ['y'])

    def test_channels_that_protect_one_another(self):
        world = World.of(('app', 'token', ('key',), 3), ('app', 'key', ('token',), 5))
        self.assertEqual(exposed(world, ('token',)), ['token', 'key'])
        self.assertEqual(exposed(world, ('key',)), ['token', 'key'])
        self.assertEqual(exposure(world, ('key',), 'token'), [('app', 'token')])
        self.assertEqual(exposure(world, ('key',), 'key'), [])

    def test_empty_channel_reveals_nothing(self):
        world = World.of(('app', 'token', (), 3), ('app', 'key', (), 5))
        self.assertEqual(exposed(world, ('key',)), ['key'])
        self.assertIsNone(exposure(world, ('key',), 'token'))
        self.assertFalse(is_exposure(world, ('key',), 'token', [('app', 'token')]))


class Exposures(unittest.TestCase):
    def test_secret_in_the_suspicion(self):
        self.assertEqual(exposure(CHAIN, ('q',), 'q'), [])
        self.assertTrue(is_exposure(CHAIN, ('q',), 'q', []))
        self.assertTrue(is_exposure(CHAIN, ('q',), 'q', ()))
        self.assertFalse(is_exposure(CHAIN, ('q',), 'r', []))

    def test_longer_exposure_of_a_secret_in_the_suspicion(self):
        self.assertTrue(is_exposure(CHAIN, ('p', 'q'), 'q', [('a', 'q')]))
        self.assertTrue(is_exposure(CHAIN, ('p', 'q'), 'q', (('b', 'r'), ('a', 'q'))))
        self.assertFalse(is_exposure(CHAIN, ('q',), 'q', [('a', 'q')]))
        self.assertFalse(is_exposure(CHAIN, ('p', 'q'), 'q', [('a', 'q'), ('b', 'r')]))

    def test_chain(self):
        self.assertEqual(exposure(CHAIN, ('p',), 'r'), [('a', 'q'), ('b', 'r')])
        self.assertTrue(is_exposure(CHAIN, ('p',), 'r', [('a', 'q'), ('b', 'r')]))
        self.assertTrue(is_exposure(CHAIN, ('p',), 'r', [('a', 'q'), ('b', 'r'), ('a', 'q'), ('b', 'r')]))
        self.assertFalse(is_exposure(CHAIN, ('p',), 'r', [('b', 'r'), ('a', 'q')]))
        self.assertFalse(is_exposure(CHAIN, ('p',), 'r', [('b', 'r')]))
        self.assertFalse(is_exposure(CHAIN, ('p',), 'q', [('a', 'q'), ('b', 'r')]))
        self.assertFalse(is_exposure(CHAIN, ('p',), 'q', [('a', 'q'), ('b', 'q')]))

    def test_each_secret_of_the_channel_counts(self):
        world = World.of(('a', 'x', ('y', 'z'), 1), ('a', 'y', (), 1), ('a', 'z', ('y',), 1))
        self.assertFalse(is_exposure(world, ('y',), 'x', [('a', 'x')]))
        self.assertTrue(is_exposure(world, ('y',), 'x', [('a', 'z'), ('a', 'x')]))

    def test_a_later_use_does_not_count(self):
        world = World.of(('a', 'x', ('y',), 1), ('a', 'y', ('x',), 1), ('a', 'z', (), 1))
        self.assertFalse(is_exposure(world, ('z',), 'y', [('a', 'x'), ('a', 'y')]))

    def test_no_exposure(self):
        self.assertIsNone(exposure(CHAIN, ('r',), 'q'))
        self.assertIsNone(exposure(CHAIN, ('p',), 's'))

    def test_first_one_of_the_shortest(self):
        world = World.of(('a', 'k', (), 1), ('a', 'y', ('k',), 1), ('b', 'x', ('k',), 1), ('b', 'k', (), 1),
                         ('c', 'x', ('k',), 1), ('c', 'k', (), 1), ('d', 't', ('x', 'y'), 1), ('d', 'x', (), 1),
                         ('d', 'y', ('x',), 1), ('a', 't', ('y', 'k'), 1))
        self.assertEqual(exposure(world, ('k',), 'x'), [('b', 'x')])
        self.assertEqual(exposure(world, ('k',), 'y'), [('a', 'y')])
        self.assertEqual(exposure(world, ('k',), 't'), [('a', 'y'), ('a', 't')])
        self.assertEqual(exposure(world, ('x',), 't'), [('d', 'y'), ('d', 't')])

    def test_shortest_is_not_the_first_that_is_found_in_order(self):
        world = World.of(('a', 'k', (), 1), ('a', 'l', ('k',), 1), ('a', 't', ('l',), 1), ('b', 't', ('k',), 1),
                         ('b', 'k', (), 1))
        self.assertEqual(exposure(world, ('k',), 't'), [('b', 't')])

    def test_order_of_uses_that_do_not_need_one_another(self):
        world = World.of(('a', 't', ('y', 'x'), 1), ('a', 'x', ('k',), 1), ('a', 'y', ('k',), 1), ('a', 'k', (), 1))
        self.assertEqual(exposure(world, ('k',), 't'), [('a', 'x'), ('a', 'y'), ('a', 't')])

    def test_an_earlier_first_use_beats_an_earlier_last_use(self):
        world = World.of(('a', 'x', ('k',), 1), ('a', 'k', (), 1), ('b', 't', ('y',), 1), ('b', 'y', ('k',), 1),
                         ('b', 'k', (), 1), ('a', 't', ('x',), 1))
        self.assertEqual(exposure(world, ('k',), 't'), [('a', 'x'), ('a', 't')])

    def test_random_worlds(self):
        rng = seeded(3)
        lengths = [0] * 6
        for _ in range(250):
            world = random_world(rng, 3, 4, 7)
            suspicion = random_suspicion(rng, world)
            self.assertEqual(exposed(world, suspicion), model_exposed(world, suspicion))
            for secret in world.secrets:
                found = exposure(world, suspicion, secret)
                self.assertEqual(found, model_exposure(world, suspicion, secret))
                if found is not None:
                    lengths[len(found)] += 1
                    self.assertTrue(is_exposure(world, suspicion, secret, found))
        self.assertTrue(all(lengths[:4]), lengths)

    def test_random_lists(self):
        rng = seeded(4)
        seen = {True: 0, False: 0}
        for _ in range(3000):
            world = random_world(rng, 2, 4, 8)
            suspicion = random_suspicion(rng, world)
            secret = rng.choice(world.secrets)
            uses = [rng.choice(world.uses) for _ in range(rng.randrange(4))]
            expected = model_is_exposure(world, suspicion, secret, uses)
            seen[expected] += 1
            self.assertIs(is_exposure(world, suspicion, secret, uses), expected)
            self.assertIs(is_exposure(world, suspicion, secret, tuple(uses)), expected)
        self.assertTrue(min(seen.values()) > 200, seen)

    def test_largest_world(self):
        uses = {("a", "z"): ((), 1)}
        for protected, protecting in zip("yxwvu", "zyxwv"):
            uses[("a", protected)] = ((protecting,), 1)
            uses[("b", protected)] = ((), 1)
        uses[("b", "z")] = (("y",), 9)
        world = World(uses)
        self.assertEqual([len(world.uses), len(world.secrets)], [12, 6])
        self.assertEqual(exposed(world, ('z',)), list("zyxwvu"))
        self.assertEqual(exposure(world, ('z',), 'u'), [('a', secret) for secret in "yxwvu"])


class Needed(unittest.TestCase):
    def test_example_world(self):
        world = small_world()
        self.assertEqual(needed(world, [('token',)]), [('app', 'token')])
        self.assertEqual(needed(world, [('key',)]), [('app', 'token'), ('app', 'key'), ('db', 'key')])

    def test_several_suspicions(self):
        world = World.of(('a', 'x', (), 1), ('b', 'y', (), 1), ('c', 'z', (), 1), ('b', 'x', (), 1))
        self.assertEqual(needed(world, [('z',), ('x',)]), [('a', 'x'), ('c', 'z'), ('b', 'x')])
        self.assertEqual(needed(world, (('y',),)), [('b', 'y')])
        self.assertEqual(needed(world, [('z',), ('y',), ('x',)]), world.uses)

    def test_outsiders_do_not_cooperate(self):
        world = World.of(('a', 't', ('x', 'y'), 1), ('a', 'x', (), 1), ('a', 'y', (), 1))
        self.assertEqual(needed(world, [('x',), ('y',)]), [('a', 'x'), ('a', 'y')])
        self.assertEqual(needed(world, [('x', 'y')]), world.uses)

    def test_random_worlds(self):
        rng = seeded(5)
        for _ in range(150):
            world = random_world(rng, 3, 4, 6)
            suspicions = [random_suspicion(rng, world) for _ in range(rng.randint(1, 3))]
            lost = [secret for suspicion in suspicions for secret in model_exposed(world, suspicion)]
            self.assertEqual(needed(world, suspicions), [use for use in world.uses if use[1] in lost])


class Conventions(unittest.TestCase):
    def test_arguments_are_not_modified(self):
        suspicions, uses = [('p',), ('q',)], [('a', 'q'), ('b', 'r')]
        needed(CHAIN, suspicions)
        is_exposure(CHAIN, ('p',), 'r', uses)
        self.assertEqual([suspicions, uses], [[('p',), ('q',)], [('a', 'q'), ('b', 'r')]])

    def test_returned_lists_are_new(self):
        calls = [(exposed, ('p',)), (exposure, ('p',), 'r'), (exposure, ('p',), 'p'), (needed, [('p',)])]
        for function, *rest in calls:
            first = function(CHAIN, *rest)
            self.assertIs(type(first), list)
            kept = list(first)
            first.append('x')
            first.reverse()
            self.assertEqual(function(CHAIN, *rest), kept)

    def test_kinds_of_values(self):
        self.assertEqual([type(use) for use in exposure(CHAIN, ('p',), 'r')], [tuple, tuple])
        self.assertEqual([type(use) for use in needed(CHAIN, [('r',)])], [tuple])

    def test_defined_in_this_file(self):
        for function in [exposed, exposure, is_exposure, needed]:
            self.assertEqual(function.__module__, "rotatesafe.exposure")


if __name__ == "__main__":
    unittest.main()
