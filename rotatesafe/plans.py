"""Plans: whether they keep every service working and every live secret unknown, and what they cost."""

from rotatesafe.checks import check_plan, check_suspicions, check_world
from rotatesafe.outsiders import known_versions
from rotatesafe.states import State


def _is_live_known(world, suspicions, state):
    """Return whether an outsider of a suspicion knows a version that an issuer accepts."""
    messages = state.sent_messages()
    live = state.accepted_versions()
    for suspicion in suspicions:
        known = known_versions(world, suspicion, messages)
        if any([version in known for version in live]):
            return True
    return False


def first_fault(world, suspicions, plan):
    """Return None if a plan is sound, otherwise the pair (index, word) of its first fault."""
    check_world(world)
    check_suspicions(world, suspicions)
    check_plan(world, plan)
    state = State(world)
    for index, step in enumerate(plan):
        if not state.allows(step):
            return index, "step"
        state.take(step)
        if not state.all_work():
            return index, "service"
    if _is_live_known(world, suspicions, state):
        return len(plan), "known"
    return None


def is_sound(world, suspicions, plan):
    """Return whether a plan is sound."""
    return first_fault(world, suspicions, plan) is None


def plan_cost(world, plan):
    """Return the sum of the costs of the uses of all carry steps, possible or not."""
    check_world(world)
    check_plan(world, plan)
    return sum([world.cost(step[1:]) for step in plan if step[0] == "carry"])
