"""Promises [1], [4] and [5]: the interface's rotatesafe/plans.py."""

import unittest

from rotatesafe.errors import BadStep, BadSuspicion, BadWorld
from rotatesafe.plans import first_fault, is_sound, plan_cost
from rotatesafe.worlds import World
from support import (ODD_VALUES, Same, WithErrors, all_steps, model_fault, random_plan, random_suspicion, random_world,
                     seeded, small_world)

PAIR = World.of(('app', 'token', ('key',), 3), ('app', 'key', (), 5))
SENT = [('mint', 'token'), ('send', 'app', 'token'), ('retire', 'token')]
# Two secrets whose channels protect one another, and the plan that carries one of them.
MUTUAL = World.of(('app', 'token', ('key',), 3), ('app', 'key', ('token',), 5))
# A channel that two secrets protect together.
DOUBLE = World.of(('a', 't', ('x', 'y'), 1), ('a', 'x', (), 2), ('a', 'y', (), 3))

BAD_STEPS = ODD_VALUES + [
    "mint", ["mint", "token"], ("mint",), ("mint", "salt"), ("mint", "app"), ("mint", "app", "token"),
    ("mint", "token", "key"), ("mint", ("app", "token")), ("mint", ["token"]), ("mint", None),
    ("retire",), ("retire", "salt"), ("retire", "app", "token"), ("retire", {}), ("retire", True),
    ("send",), ("send", "token"), ("send", "db", "token"), ("send", "token", "app"), ("send", ("app", "token")),
    ("send", "app", "token", "key"), ("send", "app", ["token"]), ("send", ["app"], "token"),
    ("carry",), ("carry", "app"), ("carry", "db", "token"), ("carry", "app", "token", 3), ("carry", "app", None),
    ("carry", {}, "token"), ("send", "carry"),
    ("Mint", "token"), ("burn", "token"), ("", "token"), (None, "token"), (["mint"], "token"), (b"mint", "token"),
    ("fetch", "app", "token"), (["send"], "app", "token"), (None, "app", "token"), (True, "token"), ("app", "token")]


def rotated(secret, *moves):
    return [('mint', secret), *moves, ('retire', secret)]


class Refusals(WithErrors):
    def test_worlds(self):
        for value in ODD_VALUES + [World, {('app', 'key'): ((), 1)}]:
            for function, *rest in [(is_sound, [('key',)], []), (first_fault, [('key',)], []), (plan_cost, [])]:
                self.assertIsNone(self.refused(BadWorld, function, value, *rest).part)

    def test_suspicions(self):
        wrong = ODD_VALUES + [[], ('key',), [['key']], [('key', 'token')], [('key', 'key')], [('salt',)], [()],
                              [('key',)] * 4, (('key',),) * 4, ['key'], [('key',), ()], [('key',), None], {('key',): 1}]
        for value in wrong:
            for function in [is_sound, first_fault]:
                self.refused(BadSuspicion, function, small_world(), value, [])

    def test_number_of_suspicions(self):
        for count in range(1, 4):
            self.assertTrue(is_sound(PAIR, [('token',)] * count, SENT))
            self.assertTrue(is_sound(PAIR, (('token',),) * count, SENT))

    def test_plans_that_are_no_lists(self):
        wrong = [value for value in ODD_VALUES if not isinstance(value, (list, tuple))]
        for value in wrong + ["mint token", {('mint', 'token'): 1}, {('mint', 'token')}, iter([]), range(0)]:
            self.assertIsNone(self.refused(BadStep, is_sound, PAIR, [('key',)], value).index)
            self.assertIsNone(self.refused(BadStep, first_fault, PAIR, [('key',)], value).index)
            self.assertIsNone(self.refused(BadStep, plan_cost, PAIR, value).index)

    def test_steps(self):
        for value in BAD_STEPS:
            for plan in [[value], SENT + [value], SENT + [value, None], tuple(SENT) + (value,)]:
                index = 0 if len(plan) == 1 else 3
                self.assertEqual(self.refused(BadStep, is_sound, small_world(), [('key',)], plan).index, index)
                self.assertEqual(self.refused(BadStep, first_fault, small_world(), [('key',)], plan).index, index)
                self.assertEqual(self.refused(BadStep, plan_cost, small_world(), plan).index, index)

    def test_what_equals_everything_is_no_part_of_a_step(self):
        for step in [(Same(), 'token'), ('mint', Same()), (Same(), 'app', 'token'), ('carry', 'app', Same())]:
            self.assertEqual(self.refused(BadStep, first_fault, PAIR, [('key',)], [step]).index, 0)

    def test_a_step_in_place_of_a_plan(self):
        self.assertEqual(self.refused(BadStep, plan_cost, PAIR, ('mint', 'token')).index, 0)

    def test_wrong_steps_are_found_behind_faults(self):
        plan = [('retire', 'token'), ('retire', 'token'), ('mint', 'salt')]
        self.assertEqual(self.refused(BadStep, first_fault, PAIR, [('key',)], plan).index, 2)
        self.assertEqual(self.refused(BadStep, is_sound, PAIR, [('key',)], plan).index, 2)

    def test_what_is_documented_first_is_raised(self):
        for function in [is_sound, first_fault]:
            self.refused(BadWorld, function, None, None, None)
            self.refused(BadSuspicion, function, PAIR, [], None)
            self.refused(BadSuspicion, function, PAIR, [('salt',)], [None])
        self.refused(BadWorld, plan_cost, None, [None])


class Steps(unittest.TestCase):
    """The conditions under which steps are possible; token is suspected, so all is well at the end."""

    def fault(self, plan, expected, world=PAIR):
        self.assertEqual(first_fault(world, [('token',)], plan), expected)
        self.assertIs(is_sound(world, [('token',)], plan), expected is None)

    def test_example_of_the_document(self):
        found = [first_fault(PAIR, [('token',)], SENT), first_fault(PAIR, [('key',)], SENT),
                 first_fault(PAIR, [('token',)], SENT[::2])]
        self.assertEqual(found, [None, (3, 'known'), (1, 'service')])

    def test_empty_plan(self):
        self.fault([], (0, 'known'))
        self.fault((), (0, 'known'))

    def test_tuple_as_a_plan(self):
        self.fault(tuple(SENT), None)
        self.fault(tuple(SENT[::2]), (1, 'service'))

    def test_mint(self):
        self.fault([('mint', 'token'), ('mint', 'token')], (1, 'step'))
        self.fault(SENT + [('mint', 'token')], (3, 'step'))
        self.fault([('mint', 'token'), ('mint', 'key')], (2, 'known'))

    def test_send(self):
        self.fault([('send', 'app', 'token')], (0, 'step'))
        self.fault(SENT[:2] + [('send', 'app', 'token')], (2, 'step'))
        self.fault(SENT + [('send', 'app', 'token')], (3, 'step'))
        self.fault([('mint', 'token'), ('carry', 'app', 'token'), ('send', 'app', 'token')], (2, 'step'))
        self.fault([('mint', 'key'), ('send', 'app', 'token')], (1, 'step'))

    def test_send_without_a_channel(self):
        self.fault([('mint', 'key'), ('send', 'app', 'key')], (1, 'step'))
        self.fault([('mint', 'key'), ('carry', 'app', 'key')], (2, 'known'))

    def test_carry(self):
        self.fault([('carry', 'app', 'token')], (0, 'step'))
        self.fault([('mint', 'key'), ('carry', 'app', 'token')], (1, 'step'))
        self.fault(SENT[:2] + [('carry', 'app', 'token')], (2, 'step'))
        self.fault(rotated('token', ('carry', 'app', 'token')) + [('carry', 'app', 'token')], (3, 'step'))
        self.fault(rotated('token', ('carry', 'app', 'token')), None)

    def test_retire(self):
        self.fault([('retire', 'token')], (0, 'step'))
        self.fault([('mint', 'key'), ('retire', 'token')], (1, 'step'))
        self.fault(SENT + [('retire', 'token')], (3, 'step'))
        self.fault([('mint', 'token'), ('retire', 'token')], (1, 'service'))

    def test_all_users_need_the_new_version(self):
        world = World.of(('app', 'token', (), 3), ('db', 'token', (), 5), ('web', 'token', (), 5))
        carries = [('carry', service, 'token') for service in ['app', 'db', 'web']]
        self.fault(rotated('token', *carries), None, world)
        for missing in range(3):
            rest = carries[:missing] + carries[missing + 1:]
            self.fault(rotated('token', *rest), (3, 'service'), world)

    def test_versions_of_one_secret_by_different_services(self):
        world = World.of(('app', 'token', (), 3), ('db', 'token', (), 5))
        self.fault([('mint', 'token'), ('carry', 'app', 'token'), ('carry', 'app', 'token')], (2, 'step'), world)
        self.fault([('mint', 'token'), ('carry', 'db', 'token'), ('carry', 'app', 'token')], (3, 'known'), world)

    def test_first_of_several_faults(self):
        self.fault([('mint', 'token'), ('retire', 'token'), ('retire', 'token')], (1, 'service'))
        self.fault([('mint', 'token'), ('mint', 'token'), ('retire', 'token')], (1, 'step'))
        self.fault([('retire', 'key'), ('retire', 'token')], (0, 'step'))

    def test_a_plan_may_rotate_more_than_is_needed(self):
        self.fault(rotated('key', ('carry', 'app', 'key')) + SENT, None)
        self.fault(SENT + rotated('key', ('carry', 'app', 'key')), None)

    def test_an_issuer_may_accept_both_in_the_end(self):
        self.fault(SENT + [('mint', 'key')], None)
        self.fault(SENT + [('mint', 'key'), ('carry', 'app', 'key')], None)
        self.fault(SENT[:2], (2, 'known'))
        self.fault([('mint', 'token'), ('carry', 'app', 'token')], (2, 'known'))


class Knowledge(unittest.TestCase):
    def known(self, world, suspicions, plan):
        self.assertEqual(first_fault(world, suspicions, plan), (len(plan), 'known'))
        self.assertIs(is_sound(world, suspicions, plan), False)

    def sound(self, world, suspicions, plan):
        self.assertIsNone(first_fault(world, suspicions, plan))
        self.assertIs(is_sound(world, suspicions, plan), True)

    def test_sent_with_an_old_version_that_is_known(self):
        self.known(PAIR, [('key',)], SENT + rotated('key', ('carry', 'app', 'key')))
        self.sound(PAIR, [('key',)], rotated('key', ('carry', 'app', 'key')) + SENT)

    def test_version_that_the_service_holds_counts(self):
        self.sound(PAIR, [('key',)], [('mint', 'key'), ('carry', 'app', 'key')] + SENT + [('retire', 'key')])
        self.known(PAIR, [('key',)], [('mint', 'key')] + SENT + [('carry', 'app', 'key'), ('retire', 'key')])

    def test_version_that_another_service_holds_does_not_count(self):
        world = World.of(('app', 'token', ('key',), 3), ('app', 'key', (), 5), ('db', 'key', (), 2))
        carries = [('carry', 'app', 'key'), ('carry', 'db', 'key')]
        self.sound(world, [('key',)], [('mint', 'key'), carries[0], *SENT, carries[1], ('retire', 'key')])
        self.known(world, [('key',)], [('mint', 'key'), carries[1], *SENT, carries[0], ('retire', 'key')])

    def test_all_exposed_secrets_must_go(self):
        self.known(PAIR, [('key',)], rotated('key', ('carry', 'app', 'key')))
        self.known(PAIR, [('key',)], rotated('token', ('carry', 'app', 'token')))

    def test_carrying_reveals_nothing(self):
        plan = rotated('token', ('carry', 'app', 'token')) + rotated('key', ('carry', 'app', 'key'))
        self.sound(PAIR, [('key',)], plan)
        self.sound(MUTUAL, [('key',)], plan)

    def test_channels_that_protect_one_another(self):
        token, key = rotated('token', ('send', 'app', 'token')), rotated('key', ('send', 'app', 'key'))
        for plan in [token + key, key + token]:
            self.known(MUTUAL, [('key',)], plan)
        both = [('mint', 'token'), ('mint', 'key')]
        moves = [('send', 'app', 'token'), ('send', 'app', 'key')]
        self.known(MUTUAL, [('key',)], both + moves + [('retire', 'token'), ('retire', 'key')])
        self.sound(MUTUAL, [('key',)], rotated('token', ('carry', 'app', 'token')) + key)
        self.sound(MUTUAL, [('token',)], rotated('key', ('carry', 'app', 'key')) + token)

    def test_message_that_can_be_read_only_later(self):
        # The new w stays unknown until the new v, with which it is encrypted, is sent readably to b.
        rows = [('a', 'w', ('v',), 1), ('a', 'v', (), 1), ('b', 'v', ('u',), 1), ('b', 'u', (), 1)]
        world = World.of(*rows)
        start = [('mint', 'v'), ('carry', 'a', 'v'), *rotated('w', ('send', 'a', 'w'))]
        later = [('send', 'b', 'v'), ('retire', 'v')]
        self.sound(world, [('w',)], start + later)
        self.known(world, [('u',)], start + later + rotated('u', ('carry', 'b', 'u')))
        self.sound(world, [('u',)], start + rotated('u', ('carry', 'b', 'u')) + later)

    def test_messages_that_open_one_another_against_their_order(self):
        rows = [('a', 'z', ('y',), 1), ('a', 'y', (), 1), ('b', 'y', ('x',), 1), ('b', 'x', (), 1),
                ('c', 'x', ('k',), 1), ('c', 'k', (), 1)]
        world = World.of(*rows)
        plan = [('mint', 'y'), ('carry', 'a', 'y'), *rotated('z', ('send', 'a', 'z')), ('mint', 'x'),
                ('carry', 'b', 'x'), ('send', 'b', 'y'), ('retire', 'y')]
        self.known(world, [('k',)], plan + [('send', 'c', 'x'), ('retire', 'x'), *rotated('k', ('carry', 'c', 'k'))])
        self.sound(world, [('k',)], plan + [*rotated('k', ('carry', 'c', 'k')), ('send', 'c', 'x'), ('retire', 'x')])

    def test_all_versions_of_a_channel_are_required(self):
        everything = [('x', 'y')]
        for first, second in ['xy', 'yx']:
            head = [('mint', first), ('carry', 'a', first), *rotated('t', ('send', 'a', 't')), ('retire', first)]
            self.sound(DOUBLE, everything, head + rotated(second, ('carry', 'a', second)))
        carried = rotated('x', ('carry', 'a', 'x')) + rotated('y', ('carry', 'a', 'y'))
        self.known(DOUBLE, everything, rotated('t', ('send', 'a', 't')) + carried)

    def test_outsiders_do_not_cooperate(self):
        plan = rotated('x', ('carry', 'a', 'x')) + rotated('y', ('carry', 'a', 'y'))
        self.sound(DOUBLE, [('x',), ('y',)], plan)
        self.sound(DOUBLE, [('x',), ('y',)], rotated('t', ('send', 'a', 't')) + plan)
        self.known(DOUBLE, [('x', 'y')], plan)

    def test_each_suspicion_counts(self):
        plan = rotated('x', ('carry', 'a', 'x'))
        self.sound(DOUBLE, [('x',)], plan)
        for suspicions in [[('x',), ('y',)], [('y',), ('x',)], (('x',), ('x',), ('y',))]:
            self.known(DOUBLE, suspicions, plan)

    def test_issuers_that_accept_both_in_the_end(self):
        world = World.of(('a', 't', ('k',), 1), ('a', 'k', (), 1), ('b', 't', (), 1), ('c', 's', (), 1))
        rotated_k = rotated('k', ('carry', 'a', 'k'))
        self.known(world, [('k',)], [('mint', 't'), ('send', 'a', 't'), *rotated_k])
        self.known(world, [('k',)], [('mint', 't'), ('carry', 'a', 't'), *rotated_k])
        self.sound(world, [('s',)], [('mint', 't'), ('send', 'a', 't'), *rotated('s', ('carry', 'c', 's'))])

    def test_versions_of_an_unknown_secret_may_be_accepted(self):
        self.sound(PAIR, [('token',)], SENT + [('mint', 'key')])
        self.sound(PAIR, [('token',)], SENT + rotated('key', ('carry', 'app', 'key')))


class RandomPlans(unittest.TestCase):
    def test_against_the_model(self):
        rng = seeded(11)
        seen = {}
        for _ in range(4000):
            world = random_world(rng, 3, 3, 6)
            suspicions = [random_suspicion(rng, world) for _ in range(rng.randint(1, 3))]
            plan = random_plan(rng, world)
            expected = model_fault(world, suspicions, plan)
            word = expected and expected[1]
            seen[word] = seen.get(word, 0) + 1
            self.assertEqual(first_fault(world, suspicions, plan), expected)
            self.assertIs(is_sound(world, suspicions, plan), expected is None)
        self.assertTrue(len(seen) == 4 and min(seen.values()) > 50, seen)

    def test_every_single_step(self):
        for step in all_steps(small_world()):
            expected = (1, 'known') if step[0] == 'mint' else (0, 'step')
            self.assertEqual(first_fault(small_world(), [('key',)], [step]), expected)


class Costs(unittest.TestCase):
    def test_only_carries_cost(self):
        world = small_world()
        self.assertEqual(plan_cost(world, SENT), 0)
        self.assertEqual(plan_cost(world, []), 0)
        self.assertEqual(plan_cost(world, ()), 0)
        for use in world.uses:
            self.assertEqual(plan_cost(world, [('carry', *use)]), world.cost(use))
        self.assertEqual(plan_cost(world, [step for step in all_steps(world) if step[0] != 'carry']), 0)
        self.assertEqual(plan_cost(world, all_steps(world)), 10)

    def test_steps_that_are_not_possible_count(self):
        self.assertEqual(plan_cost(PAIR, [('carry', 'app', 'key'), ('retire', 'key'), ('carry', 'app', 'token')]), 8)

    def test_a_second_carry_of_the_same_use_counts(self):
        plan = rotated('token', ('carry', 'app', 'token'), ('carry', 'app', 'token'))
        self.assertEqual(plan_cost(PAIR, plan), 6)
        self.assertEqual(plan_cost(PAIR, tuple(plan)), 6)
        self.assertEqual(plan_cost(PAIR, [('carry', 'app', 'key')] * 50), 250)

    def test_least_and_most_cost(self):
        world = World.of(('a', 'x', (), 1), ('a', 'y', (), 9))
        self.assertEqual(plan_cost(world, [('carry', 'a', 'x'), ('carry', 'a', 'y')]), 10)
        self.assertIs(type(plan_cost(world, [('carry', 'a', 'x')])), int)


class Conventions(unittest.TestCase):
    def test_arguments_are_not_modified(self):
        suspicions, plan = [('token',)], list(SENT)
        first_fault(PAIR, suspicions, plan)
        is_sound(PAIR, suspicions, plan)
        plan_cost(PAIR, plan)
        self.assertEqual([suspicions, plan], [[('token',)], SENT])

    def test_calls_do_not_depend_on_earlier_ones(self):
        for _ in range(2):
            self.assertIsNone(first_fault(PAIR, [('token',)], SENT))
            self.assertEqual(first_fault(PAIR, [('key',)], SENT), (3, 'known'))
        self.assertEqual(PAIR, World.of(('app', 'token', ('key',), 3), ('app', 'key', (), 5)))

    def test_kinds_of_values(self):
        self.assertIs(type(first_fault(PAIR, [('token',)], [])), tuple)
        self.assertEqual([type(item) for item in first_fault(PAIR, [('token',)], SENT[1:])], [int, str])

    def test_defined_in_this_file(self):
        for function in [is_sound, first_fault, plan_cost]:
            self.assertEqual(function.__module__, "rotatesafe.plans")


if __name__ == "__main__":
    unittest.main()
