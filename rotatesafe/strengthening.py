"""What a world costs, and what it would cost with fewer suspicions or with a stronger channel."""

from rotatesafe.checks import check_suspicions, check_use, check_world
from rotatesafe.errors import BadSecret
from rotatesafe.rotations import rotation
from rotatesafe.worlds import LONGEST_CHANNEL, World


def world_cost(world, suspicions):
    """Return the cost of the cheapest rotation of a world."""
    return sum([world.cost(use) for use in rotation(world, suspicions).carried])


def costs_without(world, suspicions):
    """Return for each suspicion the cost of the world without it, None if it is the only one."""
    check_world(world)
    check_suspicions(world, suspicions)
    if len(suspicions) == 1:
        return [None]
    rest = [list(suspicions[:index]) + list(suspicions[index + 1:]) for index in range(len(suspicions))]
    return [world_cost(world, others) for others in rest]


def _can_strengthen(world, use, secret):
    channel = world.channel(use)
    if len(channel) >= LONGEST_CHANNEL or not world.has_use((use[0], secret)):
        return False
    return secret != use[1] and secret not in channel


def strengthened(world, use, secret):
    """Return the world in which the channel of a use has a further secret."""
    check_world(world)
    check_use(world, use)
    if not _can_strengthen(world, use, secret):
        raise BadSecret("not a secret by which the channel can be strengthened")
    rows = {other: (world.channel(other), world.cost(other)) for other in world.uses}
    channel = [other for other in world.secrets if other == secret or other in world.channel(use)]
    rows[use] = (tuple(channel), world.cost(use))
    return World(rows)


def strengthenings(world, suspicions):
    """Yield (use, secret, cost of the world) for each way to strengthen a channel, in order."""
    check_world(world)
    check_suspicions(world, suspicions)
    # The caller may change the list between two items.
    kept = list(suspicions)
    for use in world.uses:
        for secret in world.secrets:
            if _can_strengthen(world, use, secret):
                yield use, secret, world_cost(strengthened(world, use, secret), kept)


def best_strengthening(world, suspicions):
    """Return the first cheapest of the strengthenings, None if none is cheaper than the world."""
    best = None
    least = world_cost(world, suspicions)
    for triple in strengthenings(world, suspicions):
        if triple[2] < least:
            best = triple
            least = triple[2]
    return best
