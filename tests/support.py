"""Help for the tests: odd values, seeded random worlds, and slow models written from DOC.md alone."""

import itertools
import random
import unittest

from rotatesafe.errors import RotateError
from rotatesafe.worlds import World


class Odd:
    """A value of no kind that the document knows."""


class Same:
    """A value that says that it equals every other one."""

    def __eq__(self, other):
        return True

    def __hash__(self):
        return hash("token")


# Not one of these is a name, a use, a suspicion, a step, a list or a world.
ODD_VALUES = [None, True, False, 0, 1, -1, "", "A", "a b", b"app", [], {}, (), set(), Odd(), Odd, [["app"]],
              {"app": 1}, ("app",), ("app", "x", "y"), (["app"], "x"), ("app", ["x"]), (True, "x"), ("app", None)]

ROWS = [('app', 'token', ('key',), 3), ('app', 'key', (), 5), ('db', 'key', (), 2)]


class WithErrors(unittest.TestCase):
    def refused(self, kind, function, *args):
        """Check that a call raises this very error, and return the error."""
        with self.assertRaises(kind) as caught:
            function(*args)
        self.assertIs(type(caught.exception), kind)
        self.assertIsInstance(caught.exception, RotateError)
        self.assertIsInstance(caught.exception, ValueError)
        return caught.exception


def small_world():
    return World.of(*ROWS)


def random_world(rng, services, secrets, most):
    """Return a world with at most so many uses, with channels of every length that is possible."""
    pairs = list(itertools.product("abcd"[:services], "uvwxyz"[:secrets]))
    rng.shuffle(pairs)
    pairs = pairs[:rng.randint(1, most)]
    rows = []
    for service, secret in pairs:
        others = [other for name, other in pairs if name == service and other != secret]
        size = min(len(others), rng.choice([0, 1, 1, 1, 2, 2, 3]))
        rows.append((service, secret, tuple(rng.sample(others, size)), rng.randint(1, 9)))
    return World.of(*rows)


def random_suspicion(rng, world):
    size = rng.choice([1, 1, 2, len(world.secrets)])
    chosen = rng.sample(world.secrets, min(size, len(world.secrets)))
    return tuple(secret for secret in world.secrets if secret in chosen)


def model_is_exposure(world, suspicion, secret, uses):
    if not uses:
        return secret in suspicion
    for place, use in enumerate(uses):
        earlier = set(suspicion) | {other for _, other in uses[:place]}
        channel = set(world.channel(use))
        if not channel or channel - earlier:
            return False
    return uses[-1][1] == secret


def model_exposure(world, suspicion, secret):
    """Try all lists, the short ones first, those of one length in the order of the indices."""
    for length in range(len(world.secrets) + 1):
        for uses in itertools.product(world.uses, repeat=length):
            if model_is_exposure(world, suspicion, secret, list(uses)):
                return list(uses)
    return None


def model_exposed(world, suspicion):
    return [secret for secret in world.secrets if model_exposure(world, suspicion, secret) is not None]


def model_fault(world, suspicions, plan):
    """Return what first_fault should, from the history of the steps instead of a state."""
    for end in range(1, len(plan) + 1):
        if not model_possible(world, plan[:end - 1], plan[end - 1]):
            return (end - 1, "step")
        for service, secret in world.uses:
            has_new = model_has_new(plan[:end], (service, secret))
            if has_new and ("mint", secret) not in plan[:end]:
                return (end - 1, "service")
            if not has_new and ("retire", secret) in plan[:end]:
                return (end - 1, "service")
    for suspicion in suspicions:
        if model_lives(world, plan) & model_knows(world, suspicion, plan):
            return (len(plan), "known")
    return None


def model_has_new(done, use):
    return ("send", *use) in done or ("carry", *use) in done


def model_possible(world, done, step):
    minted, retired = ("mint", step[-1]) in done, ("retire", step[-1]) in done
    if step[0] == "mint":
        return not minted
    if step[0] == "retire":
        return minted and not retired
    if step[0] == "send" and world.channel(step[1:]) == ():
        return False
    return minted and not retired and not model_has_new(done, step[1:])


def model_lives(world, plan):
    lives = {(secret, "old") for secret in world.secrets if ("retire", secret) not in plan}
    return lives | {(secret, "new") for secret in world.secrets if ("mint", secret) in plan}


def model_knows(world, suspicion, plan):
    """Take the smallest set that contains the suspicion and all that can be read with it."""
    messages = [({(other, "old") for other in world.channel(use)}, (use[1], "old"))
                for use in world.uses if world.channel(use)]
    for index, step in enumerate(plan):
        if step[0] == "send":
            held = {(other, "new" if model_has_new(plan[:index], (step[1], other)) else "old")
                    for other in world.channel(step[1:])}
            messages.append((held, (step[2], "new")))
    known = {(secret, "old") for secret in suspicion}
    for _ in messages:
        known |= {content for keys, content in messages if keys <= known}
    return known


def all_steps(world):
    """Return every step of a world, possible or not."""
    steps = [(word, secret) for word in ("mint", "retire") for secret in world.secrets]
    return steps + [(word, *use) for word in ("send", "carry") for use in world.uses]


def random_plan(rng, world):
    """Return a plan most steps of which are possible; it often ends with everything rotated."""
    plan = []
    for _ in range(rng.choice([0, 3, 8, 24, 24])):
        steps = [step for step in all_steps(world) if model_possible(world, plan, step)]
        kept = [step for step in steps if not model_breaks(world, plan, step)]
        if kept and rng.random() < 0.97:
            steps = kept
        if rng.random() < 0.02 or not steps:
            steps = all_steps(world)
        if not kept and rng.random() < 0.9:
            break
        plan.append(rng.choice(steps))
    return plan


def model_breaks(world, plan, step):
    return step[0] == "retire" and not all(model_has_new(plan, use) for use in world.uses if use[1] == step[1])


def seeded(seed):
    return random.Random(seed)
