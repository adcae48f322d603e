"""Cheapest rotations: which uses must be carried, a plan that carries them, and knots that refute cheaper ones."""

from rotatesafe.checks import check_suspicions, check_world, is_choice
from rotatesafe.errors import BadKnot, BadUse
from rotatesafe.exposure import needed
from rotatesafe.finishing import all_leaks, cheapest_finish, greatest_knot, is_barred
from rotatesafe.plans import is_sound
from rotatesafe.states import State


def _is_tied(world, leaks, uses):
    """Return whether each of some needed uses is barred as long as all of them are stale."""
    return all([is_barred(world, leaks, use, uses) for use in uses])


def is_enough(world, suspicions, uses):
    """Return whether there is a sound plan in which no use but some needed ones is carried."""
    check_world(world)
    check_suspicions(world, suspicions)
    wanted = needed(world, suspicions)
    if not is_choice(world, wanted, uses):
        raise BadUse("not a list or tuple of different needed uses, in order")
    stale = [use for use in wanted if use not in uses]
    return not greatest_knot(world, all_leaks(world, suspicions), stale)


def is_knot(world, suspicions, uses):
    """Return whether a list of needed uses is a knot."""
    check_world(world)
    check_suspicions(world, suspicions)
    if not is_choice(world, needed(world, suspicions), uses) or len(uses) == 0:
        raise BadKnot("not a list or tuple of different needed uses, in order, at least one")
    return _is_tied(world, all_leaks(world, suspicions), uses)


def _cheaper_masks(world, uses, limit):
    """Return a number for each set of uses that costs less than a limit, with a bit for each use."""
    sets = [(0, 0)] if limit > 0 else []
    for index, use in enumerate(uses):
        more = [(cost + world.cost(use), mask | (1 << index)) for cost, mask in sets]
        sets = sets + [pair for pair in more if pair[0] < limit]
    return [mask for _, mask in sets]


def _meets_all(mask, masks):
    for other in masks:
        if not mask & other:
            return False
    return True


def _refute(world, uses, knots, limit):
    """Return whether no set of uses that costs less than a limit contains a use of each knot."""
    masks = [sum([1 << index for index, use in enumerate(uses) if use in knot]) for knot in knots]
    return not any([_meets_all(mask, masks) for mask in _cheaper_masks(world, uses, limit)])


class Rotation:
    """Needed uses that are enough and cost least, a plan that carries just these, and knots that show it."""

    def __init__(self, carried, plan, knots):
        self.carried = list(carried)
        self.plan = list(plan)
        self.knots = [list(knot) for knot in knots]

    def __eq__(self, other):
        return (isinstance(other, Rotation) and self.carried == other.carried
                and self.plan == other.plan and self.knots == other.knots)

    def shows(self, world, suspicions):
        """Return whether the attributes are those of a cheapest rotation, not always the first one."""
        check_world(world)
        check_suspicions(world, suspicions)
        if self.carried != [use for use in world.uses if ("carry", *use) in self.plan]:
            return False
        return is_sound(world, suspicions, self.plan) and self._refutes_cheaper(world, suspicions)

    def _refutes_cheaper(self, world, suspicions):
        """Return whether the knots are knots, and refute each set that costs less than the carried one."""
        wanted = needed(world, suspicions)
        leaks = all_leaks(world, suspicions)
        for knot in self.knots:
            if not is_choice(world, wanted, knot) or len(knot) == 0 or not _is_tied(world, leaks, knot):
                return False
        return _refute(world, wanted, self.knots, sum([world.cost(use) for use in self.carried]))


def rotation(world, suspicions):
    """Return a cheapest rotation, with the first cheapest set of carried uses."""
    check_world(world)
    check_suspicions(world, suspicions)
    carried, plan, knots = cheapest_finish(world, suspicions, State(world))
    return Rotation(carried, plan, knots)
