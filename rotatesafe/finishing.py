"""How plans are finished: which uses must be carried, and in which order the others get unread messages.

A use is stale if its secret is exposed under some suspicion and it holds the old version. While no outsider
knows a new version, an outsider knows what a use holds only if the use is stale and its secret is exposed
under this very suspicion. So a list of the stale uses stands for a state here. Leaks are, for each
suspicion, the list of its exposed secrets.
"""

from rotatesafe.exposure import exposed, needed


def all_leaks(world, suspicions):
    """Return the leaks of suspicions."""
    return [exposed(world, suspicion) for suspicion in suspicions]


def is_barred(world, leaks, use, stale):
    """Return whether a use can get no message that stays unread, while some uses are stale."""
    service, _ = use
    channel = world.channel(use)
    for leak in leaks:
        # This holds for an empty channel, too: nothing can be sent on it.
        if all([other in leak and (service, other) in stale for other in channel]):
            return True
    return False


def unread_sends(world, leaks, stale):
    """Return the stale uses that can get messages that stay unread, in an order of sending."""
    sent = []
    left = stale
    while True:
        free = [use for use in left if not is_barred(world, leaks, use, left)]
        if not free:
            return sent
        sent = sent + free
        left = [use for use in left if use not in free]


def greatest_knot(world, leaks, stale):
    """Return the stale uses that are left when all messages that stay unread are sent."""
    sent = unread_sends(world, leaks, stale)
    return [use for use in stale if use not in sent]


def _smallest_knot(world, leaks, knot):
    """Return a knot within a knot, of which no part is a knot."""
    smallest = knot
    for use in knot:
        smaller = greatest_knot(world, leaks, [other for other in smallest if other != use])
        if smaller:
            smallest = smaller
    return smallest


def _cheapest_to_carry(world, leaks, stale):
    """Return the first cheapest stale uses to carry, in order, and knots that refute all cheaper ones."""
    carried, knots = [], []
    left = greatest_knot(world, leaks, stale)
    while left:
        # What two knots share is a knot or nothing: so the smallest ones share nothing, and one use of each,
        # the first cheapest, is all that must be carried.
        knot = _smallest_knot(world, leaks, left)
        knots.append(knot)
        carried.append(min(knot, key=lambda use: world.cost(use)))
        left = greatest_knot(world, leaks, [use for use in stale if use not in carried])
    return [use for use in stale if use in carried], knots


def cheapest_finish(world, suspicions, state):
    """Return uses to carry, the steps that make a plan sound, and knots that refute all cheaper uses.

    In the state no outsider knows a new version.
    """
    leaks = all_leaks(world, suspicions)
    stale = [use for use in needed(world, suspicions) if state.version(use) == "old"]
    carried, knots = _cheapest_to_carry(world, leaks, stale)
    sent = unread_sends(world, leaks, [use for use in stale if use not in carried])
    secrets = [secret for secret in world.secrets if any([secret in leak for leak in leaks])]
    steps = [("mint", secret) for secret in secrets if state.accepted(secret) == "old"]
    steps = steps + [("carry", *use) for use in carried] + [("send", *use) for use in sent]
    steps = steps + [("retire", secret) for secret in secrets if state.accepted(secret) != "new"]
    return carried, steps, knots
