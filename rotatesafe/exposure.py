"""Which secrets an outsider knows, by which messages, and which uses need a new version."""

from rotatesafe.checks import check_secret, check_suspicion, check_suspicions, check_uses, check_world
from rotatesafe.outsiders import can_read, known_versions


def exposed(world, suspicion):
    """Return the list of the exposed secrets of a suspicion, in order."""
    check_world(world)
    check_suspicion(world, suspicion)
    known = known_versions(world, suspicion, [])
    return [secret for secret in world.secrets if (secret, "old") in known]


def _reveals(world, use, known):
    """Return whether the old version once went to this use on a channel of known secrets."""
    channel = world.channel(use)
    return len(channel) > 0 and can_read(channel, known)


def _next_layer(world, layer):
    """Return the pairs (known secrets, uses) one use further, one for each set of known secrets."""
    reached = {}
    for known, uses in layer:
        for use in world.uses:
            if use[1] in known or not _reveals(world, use, known):
                continue
            grown = tuple([secret for secret in world.secrets if secret in known or secret == use[1]])
            # The layer is in the order of the indices, so the first one to come here stays.
            if grown not in reached:
                reached[grown] = uses + [use]
    return list(reached.items())


def exposure(world, suspicion, secret):
    """Return the first of the shortest exposures of a secret, or None."""
    check_world(world)
    check_suspicion(world, suspicion)
    check_secret(world, secret)
    layer = [(tuple(suspicion), [])]
    while layer:
        for known, uses in layer:
            if secret in known:
                return uses
        layer = _next_layer(world, layer)
    return None


def is_exposure(world, suspicion, secret, uses):
    """Return whether a list of uses is an exposure of a secret."""
    check_world(world)
    check_suspicion(world, suspicion)
    check_secret(world, secret)
    check_uses(world, uses)
    if len(uses) == 0:
        return secret in suspicion
    known = list(suspicion)
    for use in uses:
        if not _reveals(world, use, known):
            return False
        known.append(use[1])
    return uses[-1][1] == secret


def needed(world, suspicions):
    """Return the list of the uses whose secret is exposed under some suspicion, in order."""
    check_world(world)
    check_suspicions(world, suspicions)
    lost = [secret for suspicion in suspicions for secret in exposed(world, suspicion)]
    return [use for use in world.uses if use[1] in lost]
