"""Promises [1] and [2]: the interface's rotatesafe/worlds.py."""

import unittest

from rotatesafe.errors import BadSecret, BadUse, BadWorld, RotateError
from rotatesafe.worlds import World
from support import ODD_VALUES, ROWS, Odd, Same, small_world

APP = ('app', 'token')
KEY = ('app', 'key')


def many_uses(count):
    """Return the dict of a world of so many uses of two secrets."""
    return {("abcdefg"[number // 2], "xy"[number % 2]): ((), 1) for number in range(count)}


def many_secrets(count):
    return {("app", "stuvwxyz"[number]): ((), 1) for number in range(count)}


class Refusals(unittest.TestCase):
    def bad_world(self, uses, part):
        with self.assertRaises(BadWorld) as caught:
            World(uses)
        self.assertIsInstance(caught.exception, RotateError)
        self.assertIsInstance(caught.exception, ValueError)
        self.assertEqual(caught.exception.part, part)
        self.assertIs(type(caught.exception.part), type(part))

    def bad_value(self, value, others=None):
        uses = {APP: value, KEY: ((), 5)}
        uses.update(others or {})
        self.bad_world(uses, APP)

    def test_not_a_dict(self):
        for value in ODD_VALUES:
            self.bad_world(value if not isinstance(value, dict) else [value], None)
        self.bad_world([(APP, ((), 1))], None)
        self.bad_world(small_world(), None)

    def test_number_of_uses(self):
        self.bad_world({}, None)
        self.bad_world(many_uses(13), None)
        self.assertEqual(len(World(many_uses(12)).uses), 12)
        self.assertEqual(World(many_uses(1)).uses, [("a", "x")])

    def test_number_of_uses_before_the_keys(self):
        self.bad_world({number: ((), 1) for number in range(13)}, None)

    def test_number_of_secrets(self):
        self.bad_world(many_secrets(7), None)
        self.assertEqual(World(many_secrets(6)).secrets, list("stuvwx"))

    def test_same_secret_of_many_services_counts_once(self):
        uses = {(service, secret): ((), 1) for service in "ab" for secret in "uvwxyz"}
        self.assertEqual(World(uses).secrets, list("uvwxyz"))

    def test_keys(self):
        keys = [key for key in ODD_VALUES if getattr(key, "__hash__", None)]
        for key in [key for key in keys if not self.has_a_list(key)]:
            self.bad_world({KEY: ((), 5), key: ((), 1)}, key)
        for key in ["ab", frozenset(["app", "key"]), ("app", "token", "key"), ("app",), (("app", "x"), "key")]:
            self.bad_world({key: ((), 1)}, key)

    def has_a_list(self, key):
        return isinstance(key, tuple) and any(isinstance(item, list) for item in key)

    def test_names_in_keys(self):
        wrong = ["", "abcdefghi", "App", "a1", "a_b", "a b", " a", "a\n", "a-b", "\u00e9", "\u00df", "\u0430", b"a", 1,
                 None, True, "`", "{", "a" * 100]
        for name in wrong:
            self.bad_world({(name, "x"): ((), 1)}, (name, "x"))
            self.bad_world({("x", name): ((), 1)}, ("x", name))
        self.assertEqual(World({("a", "abcdefgh"): ((), 1)}).secrets, ["abcdefgh"])
        self.assertEqual(World({("abcdefgh", "z"): ((), 1)}).services, ["abcdefgh"])

    def test_all_letters(self):
        for name in ["abcdefgh", "ijklmnop", "qrstuvwx", "yz"]:
            self.assertEqual(World({(name, "x"): ((), 1)}).services, [name])

    def test_first_wrong_key(self):
        self.bad_world({APP: ((), 0), ("app", ""): ((), 1), 5: ((), 1)}, ("app", ""))
        self.bad_world({5: ((), 1), ("app", ""): ((), 1)}, 5)

    def test_keys_before_the_number_of_secrets(self):
        self.bad_world({**many_secrets(7), ("app", 1): ((), 1)}, ("app", 1))

    def test_number_of_secrets_before_the_values(self):
        self.bad_world({**many_secrets(7), ("b", "s"): 0}, None)

    def test_values_that_are_no_pairs(self):
        for value in ODD_VALUES:
            self.bad_value(value)
        for value in [[(), 1], ((),), ((), 1, 1), (1, ()), "ab"]:
            self.bad_value(value)

    def test_channels(self):
        for value in ODD_VALUES:
            if value != ():
                self.bad_value((value, 1))
        wrong = [["key"], "key", {"key": 1}, ("token",), ("key", "token"), ("salt",), ("db",), ("key", "key"),
                 (1,), (True,), (None,), (["key"],), (("app", "key"),), ("key", ""), (b"key",)]
        for channel in wrong:
            self.bad_value((channel, 1))

    def test_channel_of_a_secret_that_another_service_uses(self):
        self.bad_value((("salt",), 1), {("db", "salt"): ((), 1)})

    def test_length_of_channels(self):
        names = ["one", "two", "three", "four"]
        others = {("app", name): ((), 1) for name in names}
        self.bad_value((tuple(names), 1), others)
        for count in range(4):
            world = World({APP: (tuple(names[:count]), 1), **others})
            self.assertEqual(world.channel(APP), tuple(names[:count]))

    def test_channel_repeats_a_secret_that_is_not_beside_it(self):
        self.bad_value((("key", "salt", "key"), 1), {("app", "salt"): ((), 1)})

    def test_costs(self):
        for value in ODD_VALUES:
            if value is True or type(value) is not int or value != 1:
                self.bad_value(((), value))
        for cost in [0, 10, -1, -5, 100, "3", 10 ** 30, (3,)]:
            self.bad_value(((), cost))
        for cost in range(1, 10):
            self.assertEqual(World({APP: ((), cost)}).cost(APP), cost)

    def test_first_wrong_value(self):
        self.bad_world({APP: ((), 1), KEY: ((), 0), ('db', 'key'): 7}, KEY)

    def test_rows(self):
        with self.assertRaises(BadWorld) as caught:
            World.of(('app', 'token', ('key',), 3))
        self.assertEqual(caught.exception.part, APP)
        with self.assertRaises(BadWorld) as caught:
            World.of()
        self.assertIsNone(caught.exception.part)
        with self.assertRaises(BadWorld) as caught:
            World.of(*[(service, secret, (), 1) for service, secret in many_uses(12)], ("g", "x", (), 1))
        self.assertIsNone(caught.exception.part)
        with self.assertRaises(BadWorld) as caught:
            World.of(*[(service, secret, (), 1) for service, secret in many_secrets(7)])
        self.assertIsNone(caught.exception.part)
        for row in [('app', 'key', (), True), ('app', 'key', [], 1), ('app', 'key', (), 10)]:
            with self.assertRaises(BadWorld) as caught:
                World.of(row)
            self.assertEqual(caught.exception.part, KEY)

    def test_rows_with_names_that_cannot_be_keys(self):
        for name in [["app"], {}, set(), ("a", [])]:
            with self.assertRaises(BadWorld) as caught:
                World.of(('app', 'key', (), 0), (name, 'key', (), 1))
            self.assertEqual(caught.exception.part, (name, 'key'))
            with self.assertRaises(BadWorld) as caught:
                World.of(('app', name, (), 1))
            self.assertEqual(caught.exception.part, ('app', name))

    def test_channel_and_cost_of_what_is_no_use(self):
        world = small_world()
        wrong = ODD_VALUES + [('db', 'token'), ('token', 'app'), ('app', 'app'), ['app', 'token'], "app", "token",
                              ('app', 'token', 'key'), ('app', 'token', ('key',), 3), (APP,), ("app", "a" * 20)]
        for use in wrong:
            for asked in [world.channel, world.cost]:
                with self.assertRaises(BadUse) as caught:
                    asked(use)
                self.assertIsInstance(caught.exception, RotateError)
                self.assertIsInstance(caught.exception, ValueError)

    def test_users_of_what_is_no_secret(self):
        world = small_world()
        for secret in ODD_VALUES + ["app", "db", "salt", ("key",), ["key"], APP]:
            users = world.users(secret)
            with self.assertRaises(BadSecret) as caught:
                next(users)
            self.assertIsInstance(caught.exception, RotateError)
            self.assertIsInstance(caught.exception, ValueError)


    def test_what_equals_everything_is_no_name(self):
        world = small_world()
        for channel in [(Same(),), Same()]:
            with self.assertRaises(BadWorld) as caught:
                World({APP: (channel, 1), KEY: ((), 5)})
            self.assertEqual(caught.exception.part, APP)
        for use in [Same(), ('app', Same()), (Same(), 'key')]:
            self.assertRaises(BadUse, world.channel, use)
            self.assertRaises(BadUse, world.cost, use)
        self.assertRaises(BadSecret, list, world.users(Same()))


class Contents(unittest.TestCase):
    def test_example_of_the_document(self):
        world = small_world()
        found = [world.services, world.secrets, world.channel(APP), list(world.users('key'))]
        self.assertEqual(found, [['app', 'db'], ['token', 'key'], ('key',), [('app', 'key'), ('db', 'key')]])

    def test_order_of_first_uses(self):
        world = World({('z', 'y'): (('b',), 9), ('a', 'y'): ((), 1), ('z', 'b'): (('c', 'y'), 2), ('m', 'a'): ((), 3),
                       ('a', 'b'): (('y',), 4), ('z', 'c'): ((), 5)})
        self.assertEqual(world.services, ['z', 'a', 'm'])
        self.assertEqual(world.secrets, ['y', 'b', 'a', 'c'])
        self.assertEqual(world.uses, [('z', 'y'), ('a', 'y'), ('z', 'b'), ('m', 'a'), ('a', 'b'), ('z', 'c')])
        self.assertEqual([world.cost(use) for use in world.uses], [9, 1, 2, 3, 4, 5])
        self.assertEqual([world.channel(use) for use in world.uses], [('b',), (), ('c', 'y'), (), ('y',), ()])
        self.assertEqual(list(world.users('y')), [('z', 'y'), ('a', 'y')])
        self.assertEqual(list(world.users('b')), [('z', 'b'), ('a', 'b')])
        self.assertEqual(list(world.users('c')), [('z', 'c')])

    def test_kinds_of_values(self):
        world = small_world()
        self.assertEqual([type(rows) for rows in [world.services, world.secrets, world.uses]], [list] * 3)
        self.assertEqual([type(use) for use in world.uses], [tuple] * 3)
        self.assertEqual([type(world.channel(KEY)), type(world.cost(KEY))], [tuple, int])
        self.assertEqual([type(use) for use in world.users('key')], [tuple] * 2)

    def test_users_is_a_generator(self):
        users = small_world().users('key')
        self.assertIs(iter(users), users)
        self.assertEqual(next(users), KEY)
        self.assertEqual(next(users), ('db', 'key'))
        self.assertEqual(next(users, None), None)

    def test_the_same_name_as_service_and_secret(self):
        world = World.of(('key', 'key', (), 1), ('key', 'app', ('key',), 2))
        self.assertEqual([world.services, world.secrets], [['key'], ['key', 'app']])

    def test_channels_may_protect_one_another(self):
        world = World.of(('app', 'token', ('key',), 3), ('app', 'key', ('token',), 5))
        self.assertEqual([world.channel(APP), world.channel(KEY)], [('key',), ('token',)])

    def test_channel_keeps_its_own_order(self):
        world = World.of(('app', 'a', ('c', 'b'), 1), ('app', 'b', (), 1), ('app', 'c', (), 1))
        self.assertEqual(world.channel(('app', 'a')), ('c', 'b'))

    def test_arguments_changed_afterwards(self):
        uses = {APP: (('key',), 3), KEY: ((), 5)}
        before = dict(uses)
        world = World(uses)
        self.assertEqual(uses, before)
        self.assertEqual(list(uses), list(before))
        uses[('db', 'key')] = ((), 2)
        uses[APP] = ((), 9)
        del uses[KEY]
        self.assertEqual(world.uses, [APP, KEY])
        self.assertEqual([world.channel(APP), world.cost(APP), world.cost(KEY)], [('key',), 3, 5])
        self.assertEqual([world.services, world.secrets], [['app'], ['token', 'key']])

    def test_returned_lists_changed_afterwards(self):
        world = small_world()
        for rows in [world.services, world.secrets, world.uses]:
            rows.reverse()
            rows.append('x')
        self.assertEqual(world, small_world())
        self.assertEqual([world.services, world.secrets], [['app', 'db'], ['token', 'key']])
        self.assertEqual(world.uses, [APP, KEY, ('db', 'key')])

    def test_refused_call_changes_nothing(self):
        world = small_world()
        for asked in [world.channel, world.cost, lambda use: list(world.users(use))]:
            with self.assertRaises(RotateError):
                asked(('x', 'y'))
        self.assertEqual(world, small_world())
        uses = {APP: (('key',), 3), KEY: ((), 0)}
        with self.assertRaises(BadWorld):
            World(uses)
        self.assertEqual(uses, {APP: (('key',), 3), KEY: ((), 0)})


class Equality(unittest.TestCase):
    def test_equal(self):
        uses = {(service, secret): (channel, cost) for service, secret, channel, cost in ROWS}
        self.assertTrue(World(uses) == World.of(*ROWS))
        self.assertFalse(World(uses) != World.of(*ROWS))
        self.assertEqual(World.of(*rows_of(World(uses))), World(uses))

    def test_different(self):
        world = small_world()
        others = [ROWS[:2], ROWS[::-1], [ROWS[0], ROWS[2], ROWS[1]],
                  [('app', 'token', (), 3)] + ROWS[1:], [('app', 'token', ('key',), 4)] + ROWS[1:],
                  ROWS[:2] + [('dc', 'key', (), 2)], ROWS + [('dc', 'key', (), 2)]]
        for rows in others:
            self.assertFalse(world == World.of(*rows))
            self.assertTrue(world != World.of(*rows))

    def test_order_within_channels(self):
        rows = [('app', 'b', (), 1), ('app', 'c', (), 1)]
        self.assertNotEqual(World.of(('app', 'a', ('b', 'c'), 1), *rows), World.of(('app', 'a', ('c', 'b'), 1), *rows))

    def test_not_a_world(self):
        for value in ODD_VALUES + [Odd()]:
            self.assertFalse(small_world() == value)


class Interface(unittest.TestCase):
    def test_members_stand_in_the_class_itself(self):
        for name in ["__init__", "__eq__", "services", "secrets", "uses", "channel", "cost", "users", "of"]:
            self.assertIn(name, vars(World))
        for name in ["services", "secrets", "uses"]:
            self.assertIsInstance(vars(World)[name], property)
        self.assertIsInstance(vars(World)["of"], classmethod)
        self.assertEqual(World.__module__, "rotatesafe.worlds")


def rows_of(world):
    return [(*use, world.channel(use), world.cost(use)) for use in world.uses]


if __name__ == "__main__":
    unittest.main()
