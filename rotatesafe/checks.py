"""Checks of arguments that several files need: each raises the documented error, or returns nothing."""

from rotatesafe.errors import BadSecret, BadStep, BadSuspicion, BadUse, BadWorld
from rotatesafe.worlds import World

MOST_SUSPICIONS = 3


def check_world(world):
    """Raise BadWorld if a value is not a World."""
    if not isinstance(world, World):
        raise BadWorld(None)


def _is_suspicion(world, value):
    if not isinstance(value, tuple) or len(value) == 0:
        return False
    if not all([world.has_secret(secret) for secret in value]):
        return False
    # The secrets of the world that occur, in its order: a wrong order or a repetition differs from it.
    return list(value) == [secret for secret in world.secrets if secret in value]


def check_suspicion(world, suspicion):
    """Raise BadSuspicion if a value is not one suspicion."""
    if not _is_suspicion(world, suspicion):
        raise BadSuspicion("not a tuple of different secrets of the world, in order, at least one")


def check_suspicions(world, suspicions):
    """Raise BadSuspicion if a value is not a list or tuple of 1 to 3 suspicions."""
    if not isinstance(suspicions, (list, tuple)) or not 1 <= len(suspicions) <= MOST_SUSPICIONS:
        raise BadSuspicion("not a list or tuple of 1 to 3 suspicions")
    for suspicion in suspicions:
        check_suspicion(world, suspicion)


def check_secret(world, secret):
    """Raise BadSecret if a value is not a secret of the world."""
    if not world.has_secret(secret):
        raise BadSecret("not a secret of the world")


def check_use(world, use):
    """Raise BadUse if a value is not a use of the world."""
    if not world.has_use(use):
        raise BadUse("not a use of the world")


def check_uses(world, uses):
    """Raise BadUse if a value is not a list or tuple of uses of the world."""
    if not isinstance(uses, (list, tuple)) or not all([world.has_use(use) for use in uses]):
        raise BadUse("not a list or tuple of uses of the world")


def is_choice(world, uses, value):
    """Return whether a value is a list or tuple of different ones of some uses of the world, in order."""
    if not isinstance(value, (list, tuple)) or not all([world.has_use(use) for use in value]):
        return False
    return list(value) == [use for use in uses if use in value]


def is_step(world, value):
    """Return whether a value, whatever it is, is a step with a secret or a use of the world."""
    if not isinstance(value, tuple) or len(value) == 0 or not isinstance(value[0], str):
        return False
    if value[0] in ("mint", "retire"):
        return len(value) == 2 and world.has_secret(value[1])
    if value[0] in ("send", "carry"):
        return world.has_use(value[1:])
    return False


def check_plan(world, plan):
    """Raise BadStep if a value is not a list or tuple of steps of the world."""
    if not isinstance(plan, (list, tuple)):
        raise BadStep(None)
    for index, step in enumerate(plan):
        if not is_step(world, step):
            raise BadStep(index)
