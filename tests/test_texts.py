"""Promises [1] and [10]: the interface's rotatesafe/texts.py."""

import unittest

from rotatesafe.errors import BadStep, BadSuspicion, BadText, BadWorld
from rotatesafe.texts import plan_text, read_plan, read_suspicions, read_world, suspicions_text, world_text
from rotatesafe.worlds import World
from support import (NO_SUSPICIONS, NO_WORLDS, ODD_VALUES, WithErrors, all_steps, dense_world, random_plan,
                     random_suspicions, seeded, small_world)

WORLD = World.of(('app', 'token', ('salt', 'key'), 3), ('app', 'key', (), 5), ('app', 'salt', ('key',), 9),
                 ('db', 'key', (), 1), ('app', 'pin', ('token', 'salt', 'key'), 2))
TEXT = ('use app token 3 salt key\nuse app key 5\nuse app salt 9 key\nuse db key 1\n'
        'use app pin 2 token salt key\n')
STEPS = [('mint', 'token'), ('send', 'app', 'token'), ('carry', 'db', 'key'), ('retire', 'token')]
PLAN = 'mint token\nsend app token\ncarry db key\nretire token\n'

# Words that are no names.
NO_NAMES = ['', 'Token', 'to_ken', 'to-ken', 'token1', 'abcdefghi', 'tok\u00e9n', '\u0430pp', 'to\tken', 'to\rken', '7',
            'token\r', 'to\x0bken', 'to\u2028ken', 'to\x1cken', 'to\x85ken', '\u00a0token', 'token,', "a" * 1000]
NO_COSTS = ['0', '10', '', '-1', '+3', '3.0', '03', 'a', '\u0663', '\uff13', '\u00b2', '3 ', '12', '1_', 'True', 'key']


class Broken(WithErrors):
    def row(self, expected, text):
        """Check the row of the error of a text that should be one of a world."""
        self.assertEqual(self.refused(BadText, read_world, text).row, expected)

    def suspicions_row(self, expected, text, world=WORLD):
        self.assertEqual(self.refused(BadText, read_suspicions, world, text).row, expected)

    def plan_row(self, expected, text, world=WORLD):
        self.assertEqual(self.refused(BadText, read_plan, world, text).row, expected)


class Refusals(Broken):
    def test_worlds(self):
        for value in NO_WORLDS:
            for function, *rest in [(world_text,), (suspicions_text, [('key',)]), (plan_text, []),
                                    (read_suspicions, 'seen key\n'), (read_plan, '')]:
                self.assertIsNone(self.refused(BadWorld, function, value, *rest).part)

    def test_suspicions(self):
        for value in NO_SUSPICIONS:
            self.refused(BadSuspicion, suspicions_text, small_world(), value)

    def test_plans(self):
        for value in ODD_VALUES + ["mint token", {('mint', 'token'): 1}]:
            if not isinstance(value, (list, tuple)):
                self.assertIsNone(self.refused(BadStep, plan_text, WORLD, value).index)
            self.assertEqual(self.refused(BadStep, plan_text, WORLD, STEPS + [value]).index, 4)
        for plan, index in [([('mint', 'app')], 0), (('mint', 'token'), 0), (STEPS + [('send', 'db', 'pin')], 4),
                            ([['mint', 'token']], 0), ([STEPS[0], ('mint',), None], 1)]:
            self.assertEqual(self.refused(BadStep, plan_text, WORLD, plan).index, index)

    def test_what_is_no_string(self):
        for value in ODD_VALUES + [b'', TEXT.encode(), [TEXT], TEXT.split('\n')]:
            if not isinstance(value, str):
                self.row(0, value)
                self.suspicions_row(0, value)
                self.plan_row(0, value)

    def test_what_is_documented_first_is_raised(self):
        for function in [suspicions_text, plan_text, read_suspicions, read_plan]:
            self.refused(BadWorld, function, None, None)


class Worlds(Broken):
    def test_example(self):
        text = 'use app token 3 key\nuse app key 5\n'
        self.assertEqual(world_text(read_world(text)), text)
        self.assertEqual(read_world(text).channel(('app', 'token')), ('key',))
        self.row(1, 'use app token 3 key\nuse app key 10\n')

    def test_text(self):
        self.assertEqual(world_text(WORLD), TEXT)
        self.assertEqual(read_world(TEXT), WORLD)
        self.assertIs(type(read_world(TEXT)), World)
        self.assertEqual(world_text(World.of(('app', 'token', ('key', 'salt'), 3), ('app', 'key', (), 1),
                                             ('app', 'salt', (), 1))).split('\n')[0], 'use app token 3 key salt')

    def test_channel_against_the_order_of_the_world(self):
        text = 'use a t 1 x z y\nuse a z 2\nuse a y 3\nuse a x 4\n'
        self.assertEqual(read_world(text).channel(('a', 't')), ('x', 'z', 'y'))
        self.assertEqual(world_text(read_world(text)), text)

    def test_names(self):
        for word in NO_NAMES:
            for line in ['use app token 3 ' + word, 'use app token 3 key ' + word, f'use app {word} 3',
                         f'use {word} token 3']:
                self.row(0, line + '\n' + TEXT)
                self.row(5, TEXT + line + '\n')
        text = 'use abcdefgh ijklmnop 3 qrstuvwx\nuse abcdefgh qrstuvwx 1\nuse yz yz 1\n'
        self.assertEqual(world_text(read_world(text)), text)

    def test_costs(self):
        for word in NO_COSTS:
            self.row(1, f'use app key 5\nuse app token {word}\n')
            self.row(1, f'use app key 5\nuse app token {word} key\n')
        for digit in range(1, 10):
            self.assertEqual(read_world(f'use app token {digit}\n').cost(('app', 'token')), digit)

    def test_forms_of_lines(self):
        wrong = ['', ' ', 'use', 'use ', 'use app', 'use app token', 'use app token ', 'Use app token 3',
                 'app token 3', 'used app token 3', ' use app token 3', 'use app token 3 ', 'use  app token 3',
                 'use app token 3  key', 'use app token\t3', 'use,app,token,3', 'use app token key', 'use 3 app token',
                 'use app token 3 one two three four', 'use app token 3 one two three four five', 'seen key', 'mint key',
                 'use app token 3\r', 'use app token 3\x0b', 'use app token 3\x0cuse app key 3', '# use app token 3']
        for line in wrong:
            self.row(0, line + '\n')
            self.row(1, 'use db key 1\n' + line + '\nuse app key 10\n')
        # Three secrets in a channel are accepted, so that the lines are read to their end.
        self.row(1, 'use app token 3 one two three\nuse app token 0\n')
        self.row(0, 'use app token 3 one two three\n')

    def test_first_line_that_is_not_accepted(self):
        self.row(2, 'use a x 1\nuse b x 1\nuse c x\nuse d x 0\nuse')
        self.row(0, '\nuse c x\n')
        self.row(5, TEXT + '\n')
        self.row(5, TEXT + '\n\n')

    def test_characters_behind_the_last_line_feed(self):
        self.row(5, TEXT + 'use db salt 3')
        self.row(5, TEXT + ' ')
        self.row(5, TEXT + '\r')
        self.row(4, TEXT[:-1])
        self.row(0, 'use app token 3')
        self.row(0, 'use app token')
        self.row(0, ' ')
        self.row(1, 'use app token 3\nuse app token 3')

    def test_lines_that_form_no_world(self):
        self.row(0, '')
        self.row(0, 'use app token 3 key\n')
        self.row(0, 'use app token 3 token\n')
        self.row(0, 'use app key 1\nuse app token 3 key key\n')
        self.row(0, 'use db key 1\nuse app token 3 key\n')
        lines = [f'use {service} {secret} 1\n' for service in 'abc' for secret in 'uvwxyz']
        self.assertEqual(len(read_world(''.join(lines[:12])).uses), 12)
        self.row(0, ''.join(lines[:13]))
        self.assertEqual(len(read_world(''.join(lines[:6])).secrets), 6)
        self.row(0, ''.join(lines[:6]) + 'use a t 1\n')

    def test_a_use_that_occurs_twice(self):
        self.row(0, 'use app key 1\nuse app key 1\n')
        self.row(0, 'use app key 1\nuse db key 1\nuse app key 2 key\n')
        self.row(0, TEXT + 'use app token 3 salt key\n')
        lines = [f'use {service} x 1\n' for service in 'abcdefghijkl']
        self.row(0, ''.join(lines) + lines[0])

    def test_random_worlds(self):
        rng = seeded(51)
        for _ in range(200):
            world = dense_world(rng, rng.randint(1, 3), 6, rng.randint(1, 12))
            text = world_text(world)
            self.assertEqual(text.count('\n'), len(world.uses))
            self.assertEqual(read_world(text), world)
            self.row(len(world.uses) - 1, text[:-1])


class Suspicions(Broken):
    def test_text(self):
        self.assertEqual(suspicions_text(small_world(), [('token', 'key')]), 'seen token key\n')
        for some in [[('key',)], [('token', 'key'), ('salt',)], [('key',), ('key',), ('token', 'key', 'salt', 'pin')]]:
            text = ''.join('seen ' + ' '.join(suspicion) + '\n' for suspicion in some)
            self.assertEqual(suspicions_text(WORLD, some), text)
            self.assertEqual(suspicions_text(WORLD, tuple(some)), text)
            self.assertEqual(read_suspicions(WORLD, text), some)
            self.assertIs(type(read_suspicions(WORLD, text)), list)

    def test_lines(self):
        wrong = ['', 'seen', 'seen ', 'Seen key', 'see key', 'key', ' seen key', 'seen key ', 'seen  key', 'seen\tkey',
                 'use app key 5', 'mint key', 'seen key\r'] + ['seen ' + word for word in NO_NAMES]
        wrong += ['seen token ' + word for word in NO_NAMES]
        for line in wrong:
            self.suspicions_row(0, line + '\n')
            self.suspicions_row(2, 'seen key\nseen pin\n' + line + '\nseen\n')

    def test_characters_behind_the_last_line_feed(self):
        self.suspicions_row(0, 'seen key')
        self.suspicions_row(1, 'seen key\nseen token')
        self.suspicions_row(1, 'seen key\n ')
        self.suspicions_row(1, 'seen salt token\n?')

    def test_lines_that_form_no_suspicions(self):
        for text in ['', 'seen key token\n', 'seen key key\n', 'seen app\n', 'seen token secret\n', 'seen key\n' * 4,
                     'seen key\nseen salt token\n', 'seen token key salt pin token\n', 'seen a b c d e f g h\n']:
            self.suspicions_row(0, text)
        self.assertEqual(read_suspicions(WORLD, 'seen key\n' * 3), [('key',)] * 3)

    def test_order_of_the_world(self):
        self.assertEqual(read_suspicions(small_world(), 'seen token key\n'), [('token', 'key')])
        self.suspicions_row(0, 'seen key token\n', small_world())
        self.assertEqual(read_suspicions(World.of(('a', 'key', (), 1), ('a', 'token', (), 1)), 'seen key token\n'),
                         [('key', 'token')])

    def test_random_suspicions(self):
        rng = seeded(52)
        for _ in range(200):
            world = dense_world(rng, 2, 6, rng.randint(1, 12))
            suspicions = random_suspicions(rng, world)
            self.assertEqual(read_suspicions(world, suspicions_text(world, suspicions)), suspicions)


class Plans(Broken):
    def test_text(self):
        self.assertEqual(plan_text(WORLD, STEPS), PLAN)
        self.assertEqual(plan_text(WORLD, tuple(STEPS)), PLAN)
        self.assertEqual(read_plan(WORLD, PLAN), STEPS)
        self.assertIs(type(read_plan(WORLD, PLAN)), list)
        self.assertEqual(read_plan(WORLD, plan_text(WORLD, all_steps(WORLD))), all_steps(WORLD))

    def test_empty_plan(self):
        self.assertEqual(plan_text(WORLD, []), '')
        self.assertEqual(plan_text(WORLD, ()), '')
        self.assertEqual(read_plan(WORLD, ''), [])

    def test_steps_need_not_be_possible(self):
        self.assertEqual(read_plan(WORLD, 'retire key\nsend db key\nretire key\n'),
                         [('retire', 'key'), ('send', 'db', 'key'), ('retire', 'key')])

    def test_lines(self):
        wrong = ['', 'mint', 'mint ', 'mint app token', 'mint  token', ' mint token', 'mint token ', 'Mint token', 'send',
                 'send token', 'send app token key', 'send app  token', 'carry token', 'carry app token 3', 'carry',
                 'retire', 'retire app token', 'burn token', 'token', 'use app token 3', 'seen token', 'mint\ttoken',
                 'mint token\r', 'send carry', 'burn app token', 'sends app token']
        for word in NO_NAMES:
            wrong += ['mint ' + word, 'retire ' + word, 'send app ' + word, f'send {word} token', f'carry {word} token',
                      'carry app ' + word]
        for line in wrong:
            self.plan_row(0, line + '\n')
            self.plan_row(4, PLAN + line + '\nmint\n')

    def test_characters_behind_the_last_line_feed(self):
        self.plan_row(0, 'mint token')
        self.plan_row(4, PLAN + 'mint token')
        self.plan_row(3, PLAN[:-1])
        self.plan_row(4, PLAN + ' ')
        self.plan_row(1, 'mint secret\n?')

    def test_lines_that_form_no_plan(self):
        for line in ['mint app', 'mint secret', 'retire db', 'send db token', 'carry token app', 'send web key']:
            self.plan_row(0, line + '\n')
            self.plan_row(0, PLAN + line + '\n')

    def test_random_plans(self):
        rng = seeded(53)
        for _ in range(100):
            world = dense_world(rng, 2, 4, rng.randint(1, 6))
            plan = random_plan(rng, world)
            text = plan_text(world, plan)
            self.assertEqual(text.count('\n'), len(plan))
            self.assertEqual(read_plan(world, text), plan)


class Conventions(unittest.TestCase):
    def test_arguments_are_not_modified(self):
        suspicions, plan = [('key',)], list(STEPS)
        suspicions_text(WORLD, suspicions)
        plan_text(WORLD, plan)
        self.assertEqual([suspicions, plan], [[('key',)], STEPS])

    def test_returned_lists_are_new(self):
        read_plan(WORLD, PLAN).clear()
        read_plan(WORLD, '').append(None)
        read_suspicions(WORLD, 'seen key\n').clear()
        self.assertEqual([read_plan(WORLD, PLAN), read_plan(WORLD, '')], [STEPS, []])
        self.assertEqual(read_suspicions(WORLD, 'seen key\n'), [('key',)])

    def test_kinds_of_values(self):
        for value in [world_text(WORLD), suspicions_text(WORLD, [('key',)]), plan_text(WORLD, [])]:
            self.assertIs(type(value), str)
        self.assertEqual([type(step) for step in read_plan(WORLD, PLAN)], [tuple] * 4)
        self.assertEqual(type(read_suspicions(WORLD, 'seen key\n')[0]), tuple)
        self.assertIs(type(read_world(TEXT).cost(('app', 'key'))), int)

    def test_defined_in_this_file(self):
        for function in [world_text, suspicions_text, plan_text, read_world, read_suspicions, read_plan]:
            self.assertEqual(function.__module__, "rotatesafe.texts")


if __name__ == "__main__":
    unittest.main()
