"""Promises [1] and [9]: the interface's rotatesafe/strengthening.py."""

import unittest

from rotatesafe.errors import BadSecret, BadSuspicion, BadUse, BadWorld
from rotatesafe.rotations import rotation
from rotatesafe.strengthening import best_strengthening, costs_without, strengthened, strengthenings, world_cost
from rotatesafe.worlds import World
from support import (NO_SUSPICIONS, NO_WORLDS, ODD_VALUES, Same, WithErrors, dense_world, model_cost, random_suspicions,
                     seeded, small_world)

ROWS = [('app', 'token', ('key',), 3), ('app', 'key', (), 5), ('app', 'salt', (), 1)]
TRIPLE = World.of(*ROWS)
TOKEN, KEY, SALT = TRIPLE.uses
# One use for each length of a channel.
LENGTHS = World.of(('a', 'w', (), 1), ('a', 'x', ('w',), 2), ('a', 'y', ('x', 'w'), 3), ('a', 'z', ('y', 'x', 'w'), 4),
                   ('b', 'v', (), 5), ('b', 'w', (), 6))
EVERYTHING = tuple('uvwxyz')
LARGEST = World.of(*[(service, secret, (EVERYTHING[place - 1],), 1 + place)
                     for service in 'ab' for place, secret in enumerate(EVERYTHING)])


def model_strengthened(world, use, secret):
    """Return the strengthened world, None if the channel cannot be strengthened in this way."""
    rows = []
    for other in world.uses:
        channel = world.channel(other)
        if other == use:
            if len(channel) > 2 or secret in channel or secret == use[1] or (use[0], secret) not in world.uses:
                return None
            channel = tuple(sorted(channel + (secret,), key=world.secrets.index))
        rows.append((*other, channel, world.cost(other)))
    return World.of(*rows)


def model_triples(world, suspicions):
    found = []
    for use in world.uses:
        for secret in world.secrets:
            stronger = model_strengthened(world, use, secret)
            if stronger is not None:
                found.append((use, secret, world_cost(stronger, suspicions)))
    return found


def first(*args):
    return next(strengthenings(*args))


class Refusals(WithErrors):
    def test_worlds(self):
        for value in NO_WORLDS:
            for function in [world_cost, costs_without, first, best_strengthening]:
                self.assertIsNone(self.refused(BadWorld, function, value, [('key',)]).part)
            self.assertIsNone(self.refused(BadWorld, strengthened, value, KEY, 'salt').part)

    def test_suspicions(self):
        for value in NO_SUSPICIONS:
            for function in [world_cost, costs_without, first, best_strengthening]:
                self.refused(BadSuspicion, function, small_world(), value)

    def test_uses(self):
        for value in ODD_VALUES + ["key", ('db', 'key'), ['app', 'key'], ('key', 'app'), ('app', Same()), Same(),
                                   ('app', 'key', 5), [KEY]]:
            self.refused(BadUse, strengthened, TRIPLE, value, 'salt')

    def test_secrets(self):
        for value in ODD_VALUES + ["app", "pin", ["salt"], ("salt",), Same(), "key", b"salt"]:
            self.refused(BadSecret, strengthened, TRIPLE, KEY, value)

    def test_secrets_by_which_a_channel_cannot_be_strengthened(self):
        right = {(('a', 'w'), 'x'), (('a', 'w'), 'y'), (('a', 'w'), 'z'), (('a', 'x'), 'y'), (('a', 'x'), 'z'),
                 (('a', 'y'), 'z'), (('b', 'v'), 'w'), (('b', 'w'), 'v')}
        for use in LENGTHS.uses:
            for secret in LENGTHS.secrets:
                if (use, secret) in right:
                    self.assertIsInstance(strengthened(LENGTHS, use, secret), World)
                else:
                    self.refused(BadSecret, strengthened, LENGTHS, use, secret)

    def test_full_channel(self):
        rows = [('a', 'v', ('w', 'x', 'y'), 1)] + [('a', secret, (), 1) for secret in 'wxyz']
        self.refused(BadSecret, strengthened, World.of(*rows), ('a', 'v'), 'z')

    def test_what_is_documented_first_is_raised(self):
        for function in [world_cost, costs_without, first, best_strengthening]:
            self.refused(BadWorld, function, None, None)
        self.refused(BadWorld, strengthened, None, None, None)
        self.refused(BadUse, strengthened, TRIPLE, ('db', 'key'), None)

    def test_generator_raises_when_the_first_item_is_requested(self):
        for args, kind in [((None, None), BadWorld), ((TRIPLE, []), BadSuspicion)]:
            triples = strengthenings(*args)
            self.refused(kind, next, triples)


class Costs(unittest.TestCase):
    def test_example(self):
        some = [('key',), ('token',)]
        found = [world_cost(TRIPLE, some), costs_without(TRIPLE, some), best_strengthening(TRIPLE, some)]
        self.assertEqual(found, [5, [0, 5], (KEY, 'salt', 0)])

    def test_cost_of_the_cheapest_rotation(self):
        self.assertEqual(world_cost(TRIPLE, [('token',)]), 0)
        self.assertEqual(world_cost(TRIPLE, (('salt',),)), 1)
        self.assertEqual(world_cost(TRIPLE, [('token', 'key', 'salt')] * 3), 6)
        self.assertEqual(world_cost(World.of(('a', 'x', (), 9)), [('x',)]), 9)

    def test_random_worlds(self):
        rng = seeded(41)
        for _ in range(100):
            world = dense_world(rng, 2, 3, rng.randint(1, 4))
            suspicions = random_suspicions(rng, world)
            self.assertEqual(world_cost(world, suspicions), model_cost(world, suspicions, [], world.uses))

    def test_without_each_suspicion(self):
        some = [('token',), ('key',), ('salt',)]
        self.assertEqual(costs_without(TRIPLE, some), [6, 1, 5])
        self.assertEqual(costs_without(TRIPLE, tuple(some)), [6, 1, 5])
        self.assertEqual(costs_without(TRIPLE, some[::-1]), [5, 1, 6])

    def test_without_the_only_suspicion(self):
        self.assertEqual(costs_without(TRIPLE, [('key',)]), [None])
        self.assertEqual(costs_without(TRIPLE, (('token',),)), [None])

    def test_other_equal_suspicions_stay(self):
        self.assertEqual(costs_without(TRIPLE, [('key',), ('key',)]), [5, 5])
        self.assertEqual(costs_without(TRIPLE, [('key',), ('salt',), ('key',)]), [6, 5, 6])
        self.assertEqual(costs_without(TRIPLE, [('key',)] * 3), [5, 5, 5])

    def test_largest_inputs(self):
        some = [EVERYTHING, ('u',), ('v', 'z')]
        self.assertEqual(world_cost(LARGEST, some), 2)
        self.assertEqual(costs_without(LARGEST, some), [2, 2, 2])
        world = World.of(*[(service, secret, (), 9) for service in 'ab' for secret in EVERYTHING])
        self.assertEqual(costs_without(world, [('u', 'v'), ('w', 'x'), EVERYTHING]), [108, 108, 72])


class Strengthened(unittest.TestCase):
    def test_channels_of_each_length(self):
        for use, secret, channel in [(('a', 'w'), 'z', ('z',)), (('a', 'x'), 'z', ('w', 'z')),
                                     (('a', 'y'), 'z', ('w', 'x', 'z')), (('b', 'v'), 'w', ('w',))]:
            world = strengthened(LENGTHS, use, secret)
            self.assertIs(type(world), World)
            self.assertEqual(world.channel(use), channel)
            self.assertEqual([world.uses, world.secrets, world.services],
                             [LENGTHS.uses, LENGTHS.secrets, LENGTHS.services])
            for other in LENGTHS.uses:
                self.assertEqual(world.cost(other), LENGTHS.cost(other))
                if other != use:
                    self.assertEqual(world.channel(other), LENGTHS.channel(other))

    def test_order_of_the_channel(self):
        rows = [('a', 't', ('z', 'x'), 1), ('a', 'z', (), 1), ('a', 'y', (), 1), ('a', 'x', (), 1), ('a', 'w', ('t',), 1)]
        world = World.of(*rows)
        self.assertEqual(strengthened(world, ('a', 't'), 'y').channel(('a', 't')), ('z', 'y', 'x'))
        self.assertEqual(strengthened(world, ('a', 't'), 'w').channel(('a', 't')), ('z', 'x', 'w'))
        self.assertEqual(strengthened(world, ('a', 'w'), 'x').channel(('a', 'w')), ('t', 'x'))
        rows[0] = ('a', 't', ('x', 'z'), 1)
        self.assertEqual(strengthened(World.of(*rows), ('a', 't'), 'y').channel(('a', 't')), ('z', 'y', 'x'))

    def test_secrets_by_their_first_uses_in_the_world(self):
        world = World.of(('b', 'y', (), 1), ('a', 'x', (), 1), ('a', 'y', (), 1), ('a', 'z', ('x',), 1))
        self.assertEqual(strengthened(world, ('a', 'z'), 'y').channel(('a', 'z')), ('y', 'x'))

    def test_the_world_stays(self):
        strengthened(TRIPLE, KEY, 'salt')
        self.assertEqual(TRIPLE, World.of(*ROWS))

    def test_all_messages_were_always_encrypted_in_this_way(self):
        # With an empty channel nothing was ever sent, so a channel can expose a secret and cost more.
        world = World.of(('a', 'x', (), 1), ('b', 'x', (), 9), ('a', 'y', (), 2))
        self.assertEqual(world_cost(world, [('y',)]), 2)
        self.assertEqual(world_cost(strengthened(world, ('a', 'x'), 'y'), [('y',)]), 11)
        self.assertEqual(world_cost(strengthened(TRIPLE, TOKEN, 'salt'), [('key',)]), 5)
        self.assertEqual(rotation(strengthened(TRIPLE, TOKEN, 'salt'), [('key',)]).plan[0], ('mint', 'key'))

    def test_random_worlds(self):
        rng = seeded(42)
        for _ in range(100):
            world = dense_world(rng, rng.randint(1, 3), 6, rng.randint(1, 12))
            for use in world.uses:
                for secret in world.secrets:
                    stronger = model_strengthened(world, use, secret)
                    if stronger is not None:
                        self.assertEqual(strengthened(world, use, secret), stronger)
                    else:
                        self.assertRaises(BadSecret, strengthened, world, use, secret)


class Strengthenings(unittest.TestCase):
    def test_order(self):
        self.assertEqual(list(strengthenings(TRIPLE, [('key',), ('token',)])), [
            (TOKEN, 'salt', 5), (KEY, 'token', 3), (KEY, 'salt', 0), (SALT, 'token', 5), (SALT, 'key', 5)])

    def test_channels_of_each_length(self):
        found = [(use, secret) for use, secret, _ in strengthenings(LENGTHS, [('v',)])]
        self.assertEqual(found, [(('a', 'w'), 'x'), (('a', 'w'), 'y'), (('a', 'w'), 'z'), (('a', 'x'), 'y'),
                                 (('a', 'x'), 'z'), (('a', 'y'), 'z'), (('b', 'v'), 'w'), (('b', 'w'), 'v')])

    def test_none(self):
        for rows in [[('a', 'x', (), 1), ('b', 'y', (), 1)], [('a', 'x', ('y',), 1), ('a', 'y', ('x',), 1)]]:
            world = World.of(*rows)
            self.assertEqual(list(strengthenings(world, [('x',)])), [])
            self.assertIsNone(best_strengthening(world, [('x',)]))

    def test_random_worlds(self):
        rng = seeded(43)
        seen = {}
        for _ in range(150):
            world = dense_world(rng, rng.randint(1, 2), 4, rng.randint(2, 8))
            suspicions = random_suspicions(rng, world)
            triples = model_triples(world, suspicions)
            self.assertEqual(list(strengthenings(world, suspicions)), triples)
            least = min([cost for _, _, cost in triples], default=100)
            best = next((triple for triple in triples if triple[2] == least), None)
            if least >= world_cost(world, suspicions):
                best = None
            self.assertEqual(best_strengthening(world, suspicions), best)
            word = "none" if not triples else "worse" if best is None else "better"
            seen[word] = seen.get(word, 0) + 1
        self.assertTrue(len(seen) == 3 and min(seen.values()) > 10, seen)

    def test_largest_inputs(self):
        some = [('u',), ('v', 'x'), ('z',)]
        triples = list(strengthenings(LARGEST, some))
        self.assertEqual(len(triples), 12 * 4)
        self.assertEqual(triples, model_triples(LARGEST, some))
        self.assertIsNone(best_strengthening(LARGEST, some))
        world = World.of(*[(service, secret, (), 9) for service in 'ab' for secret in EVERYTHING])
        self.assertEqual(len(list(strengthenings(world, some))), 12 * 5)
        self.assertEqual(best_strengthening(world, some), (('a', 'u'), 'v', 63))

    def test_changes_between_two_items(self):
        some = [('key',), ('token',)]
        triples = strengthenings(TRIPLE, some)
        found = [next(triples)]
        some.clear()
        found.append(next(triples))
        some.append('salt')
        self.assertEqual(found + list(triples), list(strengthenings(TRIPLE, (('key',), ('token',)))))

    def test_is_a_generator(self):
        triples = strengthenings(TRIPLE, [('key',)])
        self.assertIs(iter(triples), triples)


class Best(unittest.TestCase):
    def test_first_of_the_cheapest(self):
        world = World.of(('a', 'x', (), 3), ('a', 'y', (), 3), ('a', 'z', (), 3))
        self.assertEqual(best_strengthening(world, [('x',)]), (('a', 'x'), 'y', 0))
        self.assertEqual(best_strengthening(world, [('y',)]), (('a', 'y'), 'x', 0))
        self.assertEqual(best_strengthening(world, [('x', 'y'), ('z',)]), (('a', 'x'), 'y', 6))

    def test_not_less_than_the_cost_of_the_world(self):
        self.assertIsNone(best_strengthening(TRIPLE, [('token',)]))
        world = World.of(('a', 'x', (), 3), ('a', 'y', ('x',), 3), ('b', 'z', (), 1))
        self.assertEqual(list(strengthenings(world, [('x',)])), [(('a', 'x'), 'y', 3)])
        self.assertIsNone(best_strengthening(world, [('x',)]))

    def test_kinds_of_values(self):
        best = best_strengthening(TRIPLE, [('key',)])
        self.assertEqual([type(best), type(best[0]), type(best[1]), type(best[2])], [tuple, tuple, str, int])


class Conventions(unittest.TestCase):
    def test_arguments_are_not_modified(self):
        some = [('key',), ('token',)]
        for function in [world_cost, costs_without, best_strengthening, first]:
            function(TRIPLE, some)
            self.assertEqual(some, [('key',), ('token',)])
        self.assertEqual(TRIPLE, World.of(*ROWS))

    def test_returned_lists_are_new(self):
        costs_without(TRIPLE, [('key',), ('token',)]).clear()
        self.assertEqual(costs_without(TRIPLE, [('key',), ('token',)]), [0, 5])

    def test_defined_in_this_file(self):
        for function in [world_cost, costs_without, strengthened, strengthenings, best_strengthening]:
            self.assertEqual(function.__module__, "rotatesafe.strengthening")


if __name__ == "__main__":
    unittest.main()
