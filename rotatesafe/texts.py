"""Worlds, suspicions and plans as texts of lines, each of which ends with a line feed."""

from rotatesafe.checks import check_plan, check_suspicions, check_world
from rotatesafe.errors import BadStep, BadSuspicion, BadText, BadWorld
from rotatesafe.worlds import LONGEST_CHANNEL, World, is_name

COSTS = ("1", "2", "3", "4", "5", "6", "7", "8", "9")
# The words of a use line before its channel: use, service, secret and cost.
USE_WORDS = 4
# How many words a line has that begins with the word of a step.
STEP_WORDS = {"mint": 2, "send": 3, "carry": 3, "retire": 2}


def _text(rows):
    return "".join([" ".join(words) + "\n" for words in rows])


def world_text(world):
    """Return the text of a world."""
    check_world(world)
    return _text([["use", *use, str(world.cost(use)), *world.channel(use)] for use in world.uses])


def suspicions_text(world, suspicions):
    """Return the text of a list or tuple of suspicions."""
    check_world(world)
    check_suspicions(world, suspicions)
    return _text([["seen", *suspicion] for suspicion in suspicions])


def plan_text(world, plan):
    """Return the text of a plan."""
    check_world(world)
    check_plan(world, plan)
    return _text(plan)


def _are_names(words):
    return all([is_name(word) for word in words])


def _is_use_line(words):
    if not USE_WORDS <= len(words) <= USE_WORDS + LONGEST_CHANNEL:
        return False
    if words[0] != "use" or words[3] not in COSTS:
        return False
    return _are_names(words[1:3]) and _are_names(words[USE_WORDS:])


def _is_suspicion_line(words):
    return len(words) > 1 and words[0] == "seen" and _are_names(words[1:])


def _is_step_line(words):
    return words[0] in STEP_WORDS and len(words) == STEP_WORDS[words[0]] and _are_names(words[1:])


def _read_lines(text, is_accepted):
    """Return the list of the words of each line of a text whose lines are all accepted."""
    if not isinstance(text, str):
        raise BadText(0)
    # Other characters than the line feed, at which splitlines would split, belong to lines.
    lines = text.split("\n")
    rest = lines.pop()
    found = []
    for row, line in enumerate(lines):
        words = line.split(" ")
        if not is_accepted(words):
            raise BadText(row)
        found.append(words)
    if rest:
        raise BadText(len(lines))
    return found


def read_world(text):
    """Return the world of a text."""
    lines = _read_lines(text, _is_use_line)
    uses = {}
    for _, service, secret, cost, *channel in lines:
        uses[(service, secret)] = (tuple(channel), int(cost))
    if len(uses) < len(lines):
        raise BadText(0)
    try:
        return World(uses)
    except BadWorld:
        raise BadText(0) from None


def read_suspicions(world, text):
    """Return the list of the suspicions of a text."""
    check_world(world)
    suspicions = [tuple(words[1:]) for words in _read_lines(text, _is_suspicion_line)]
    try:
        check_suspicions(world, suspicions)
    except BadSuspicion:
        raise BadText(0) from None
    return suspicions


def read_plan(world, text):
    """Return the plan of a text, a list of steps."""
    check_world(world)
    plan = [tuple(words) for words in _read_lines(text, _is_step_line)]
    try:
        check_plan(world, plan)
    except BadStep:
        raise BadText(0) from None
    return plan
