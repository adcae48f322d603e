"""Help for the tests: odd values, seeded random worlds, and slow models written from DOC.md alone."""

import heapq
import itertools
import random
import unittest

from rotatesafe.errors import RotateError
from rotatesafe.worlds import World


class Odd:
    """A value of no kind that the document knows."""


class Same:
    """A value that says that it equals every other one."""

    def __eq__(self, other):
        return True

    def __hash__(self):
        return hash("token")


# Not one of these is a name, a use, a suspicion, a step, a list or a world.
ODD_VALUES = [None, True, False, 0, 1, -1, "", "A", "a b", b"app", [], {}, (), set(), Odd(), Odd, [["app"]],
              {"app": 1}, ("app",), ("app", "x", "y"), (["app"], "x"), ("app", ["x"]), (True, "x"), ("app", None)]

ROWS = [('app', 'token', ('key',), 3), ('app', 'key', (), 5), ('db', 'key', (), 2)]


# In small_world(): not one of these is a list or tuple of 1 to 3 suspicions.
NO_SUSPICIONS = ODD_VALUES + [
    "key", ('key',), ['key'], [['key']], [('key', 'token')], [('key', 'key')], [('salt',)], [()], [('app',)],
    [('key',)] * 4, (('key',),) * 4, [('key',), ()], [('key',), None], [('key',), ['token']], {('key',): 1},
    {('key',)}, [(True,)], [('token', 1)], [(('key',),)], [('token', 'salt')], iter([('key',)])]

NO_WORLDS = ODD_VALUES + [World, {('app', 'key'): ((), 1)}, [('app', 'key', (), 1)], "use app key 1\n"]


class WithErrors(unittest.TestCase):
    def refused(self, kind, function, *args):
        """Check that a call raises this very error, and return the error."""
        with self.assertRaises(kind) as caught:
            function(*args)
        self.assertIs(type(caught.exception), kind)
        self.assertIsInstance(caught.exception, RotateError)
        self.assertIsInstance(caught.exception, ValueError)
        return caught.exception


def small_world():
    return World.of(*ROWS)


def random_world(rng, services, secrets, most):
    """Return a world with at most so many uses, with channels of every length that is possible."""
    pairs = list(itertools.product("abcd"[:services], "uvwxyz"[:secrets]))
    rng.shuffle(pairs)
    pairs = pairs[:rng.randint(1, most)]
    rows = []
    for service, secret in pairs:
        others = [other for name, other in pairs if name == service and other != secret]
        size = min(len(others), rng.choice([0, 1, 1, 1, 2, 2, 3]))
        rows.append((service, secret, tuple(rng.sample(others, size)), rng.randint(1, 9)))
    return World.of(*rows)


def random_suspicion(rng, world):
    size = rng.choice([1, 1, 2, len(world.secrets)])
    chosen = rng.sample(world.secrets, min(size, len(world.secrets)))
    return tuple(secret for secret in world.secrets if secret in chosen)


def model_is_exposure(world, suspicion, secret, uses):
    if not uses:
        return secret in suspicion
    for place, use in enumerate(uses):
        earlier = set(suspicion) | {other for _, other in uses[:place]}
        channel = set(world.channel(use))
        if not channel or channel - earlier:
            return False
    return uses[-1][1] == secret


def model_exposure(world, suspicion, secret):
    """Try all lists, the short ones first, those of one length in the order of the indices."""
    for length in range(len(world.secrets) + 1):
        for uses in itertools.product(world.uses, repeat=length):
            if model_is_exposure(world, suspicion, secret, list(uses)):
                return list(uses)
    return None


def model_exposed(world, suspicion):
    return [secret for secret in world.secrets if model_exposure(world, suspicion, secret) is not None]


def model_fault(world, suspicions, plan):
    """Return what first_fault should, from the history of the steps instead of a state."""
    for end in range(1, len(plan) + 1):
        if not model_possible(world, plan[:end - 1], plan[end - 1]):
            return (end - 1, "step")
        for service, secret in world.uses:
            has_new = model_has_new(plan[:end], (service, secret))
            if has_new and ("mint", secret) not in plan[:end]:
                return (end - 1, "service")
            if not has_new and ("retire", secret) in plan[:end]:
                return (end - 1, "service")
    for suspicion in suspicions:
        if model_lives(world, plan) & model_knows(world, suspicion, plan):
            return (len(plan), "known")
    return None


def model_has_new(done, use):
    return ("send", *use) in done or ("carry", *use) in done


def model_possible(world, done, step):
    minted, retired = ("mint", step[-1]) in done, ("retire", step[-1]) in done
    if step[0] == "mint":
        return not minted
    if step[0] == "retire":
        return minted and not retired
    if step[0] == "send" and world.channel(step[1:]) == ():
        return False
    return minted and not retired and not model_has_new(done, step[1:])


def model_lives(world, plan):
    lives = {(secret, "old") for secret in world.secrets if ("retire", secret) not in plan}
    return lives | {(secret, "new") for secret in world.secrets if ("mint", secret) in plan}


def model_knows(world, suspicion, plan):
    """Take the smallest set that contains the suspicion and all that can be read with it."""
    messages = [({(other, "old") for other in world.channel(use)}, (use[1], "old"))
                for use in world.uses if world.channel(use)]
    for index, step in enumerate(plan):
        if step[0] == "send":
            held = {(other, "new" if model_has_new(plan[:index], (step[1], other)) else "old")
                    for other in world.channel(step[1:])}
            messages.append((held, (step[2], "new")))
    known = {(secret, "old") for secret in suspicion}
    for _ in messages:
        known |= {content for keys, content in messages if keys <= known}
    return known


def all_steps(world):
    """Return every step of a world, possible or not."""
    steps = [(word, secret) for word in ("mint", "retire") for secret in world.secrets]
    return steps + [(word, *use) for word in ("send", "carry") for use in world.uses]


def random_plan(rng, world):
    """Return a plan most steps of which are possible; it often ends with everything rotated."""
    plan = []
    for _ in range(rng.choice([0, 3, 8, 24, 24])):
        steps = [step for step in all_steps(world) if model_possible(world, plan, step)]
        kept = [step for step in steps if not model_breaks(world, plan, step)]
        if kept and rng.random() < 0.97:
            steps = kept
        if rng.random() < 0.02 or not steps:
            steps = all_steps(world)
        if not kept and rng.random() < 0.9:
            break
        plan.append(rng.choice(steps))
    return plan


def model_refused(world, plan, step):
    return not model_possible(world, plan, step) or model_breaks(world, plan, step)


def model_cost(world, suspicions, plan, allowed):
    """Return the least cost of further steps that make a plan sound and carry only allowed uses, or None.

    All states that can be reached are tried, the cheap ones first. A state is the set of the steps that were
    executed, and for each that is a send the message, since what it is encrypted with depends on the order.
    """
    queue, count, seen = [(0, 0, model_state(world, plan))], 0, set()
    while queue:
        cost, _, state = heapq.heappop(queue)
        if state in seen:
            continue
        seen.add(state)
        known = [model_reads(world, suspicion, state[1]) for suspicion in suspicions]
        if any(version == "new" for versions in known for _, version in versions):
            continue
        if all(("retire", secret) in state[0] for versions in known for secret, _ in versions):
            return cost
        for step in all_steps(world):
            if model_refused(world, state[0], step) or step[0] == "carry" and step[1:] not in allowed:
                continue
            count += 1
            price = world.cost(step[1:]) if step[0] == "carry" else 0
            heapq.heappush(queue, (cost + price, count, model_next(world, state, step)))
    return None


def model_state(world, plan):
    state = (frozenset(), frozenset())
    for step in plan:
        state = model_next(world, state, step)
    return state


def model_next(world, state, step):
    done, messages = state
    if step[0] == "send":
        keys = frozenset((other, "new" if model_has_new(done, (step[1], other)) else "old")
                         for other in world.channel(step[1:]))
        messages = messages | {(keys, (step[2], "new"))}
    return done | {step}, messages


def model_reads(world, suspicion, messages):
    known = {(secret, "old") for secret in suspicion}
    past = {(frozenset((other, "old") for other in world.channel(use)), (use[1], "old"))
            for use in world.uses if world.channel(use)}
    for _ in past | messages:
        known |= {content for keys, content in past | messages if keys <= known}
    return known


def model_leaks(world, suspicions):
    """Return the lists of the exposed secrets, by what is read of the old messages."""
    known = [model_knows(world, suspicion, []) for suspicion in suspicions]
    return [[secret for secret in world.secrets if (secret, "old") in versions] for versions in known]


def model_needed(world, suspicions):
    lost = sum(model_leaks(world, suspicions), [])
    return [use for use in world.uses if use[1] in lost]


def model_is_knot(world, leaks, knot):
    """Follow the words of the document for a list of different needed uses, in order."""
    return len(knot) > 0 and all(
        any(all(other in secrets for other in world.channel(use)) for secrets in leaks)
        and all((use[0], other) in knot for other in world.channel(use)) for use in knot)


def sublists(items):
    """Return all lists of some items, in their order."""
    return [list(some) for size in range(len(items) + 1) for some in itertools.combinations(items, size)]


def total(world, uses):
    return sum(world.cost(use) for use in uses)


def dense_world(rng, services, secrets, count):
    """Return a world of so many uses, most of which have a channel, with costs that often are the same."""
    pairs = list(itertools.product("abcdefghijkl"[:services], "uvwxyz"[:secrets]))
    rng.shuffle(pairs)
    pairs = pairs[:count]
    rows = []
    for service, secret in pairs:
        others = [other for name, other in pairs if name == service and other != secret]
        size = min(len(others), rng.choice([0, 1, 1, 2, 2, 3]))
        rows.append((service, secret, tuple(rng.sample(others, size)), rng.choice([1, 2, 2, 3, 9])))
    return World.of(*rows)


def random_suspicions(rng, world):
    return [random_suspicion(rng, world) for _ in range(rng.randint(1, 3))]


def model_breaks(world, plan, step):
    return step[0] == "retire" and not all(model_has_new(plan, use) for use in world.uses if use[1] == step[1])


def seeded(seed):
    return random.Random(seed)
