"""Drills: plans that are executed step by step, with what outsiders learn by each."""

from rotatesafe.checks import check_secret, check_suspicions, check_use, check_world, is_step
from rotatesafe.errors import BadNumber, BadStep, NothingDone
from rotatesafe.finishing import cheapest_finish
from rotatesafe.outsiders import known_versions
from rotatesafe.plans import is_sound
from rotatesafe.states import all_steps, state_after


class Drill:
    """The steps of a plan that were executed so far, and what each outsider knows by them."""

    def __init__(self, world, suspicions):
        check_world(world)
        check_suspicions(world, suspicions)
        self._world = world
        self._suspicions = list(suspicions)
        self._set_steps([])

    @classmethod
    def after(cls, world, suspicions, plan):
        """Return a drill in which the steps of a plan were executed."""
        drill = cls(world, suspicions)
        if not isinstance(plan, (list, tuple)):
            raise BadStep(None)
        for step in plan:
            drill.do(step)
        return drill

    def _set_steps(self, steps):
        """Make these the steps so far; nothing of other steps stays, so what is undone never was."""
        self._steps = steps
        self._state = state_after(self._world, steps)
        self._known = [self._knowledge(suspicion) for suspicion in self._suspicions]
        self._lost = any([version == "new" for pairs in self._known for _, version in pairs])
        self._done = is_sound(self._world, self._suspicions, steps)

    def _knowledge(self, suspicion):
        known = known_versions(self._world, suspicion, self._state.sent_messages())
        pairs = [(secret, version) for secret in self._world.secrets for version in ("old", "new")]
        return [pair for pair in pairs if pair in known]

    @property
    def steps(self):
        """The steps so far."""
        return list(self._steps)

    @property
    def is_lost(self):
        """Whether an outsider knows a new version."""
        return self._lost

    @property
    def is_done(self):
        """Whether the plan of all steps so far is sound."""
        return self._done

    def _is_refused(self, step):
        if not self._state.allows(step):
            return True
        return not state_after(self._world, self._steps + [step]).all_work()

    def do(self, step):
        """Execute a step, and return whether no outsider learns a version by it."""
        if not is_step(self._world, step) or self._is_refused(step):
            raise BadStep(len(self._steps))
        known = self._known
        self._set_steps(self._steps + [step])
        return self._known == known

    def undo(self):
        """Take back the last step, and return it."""
        if not self._steps:
            raise NothingDone("no step is left that could be undone")
        step = self._steps[-1]
        self._set_steps(self._steps[:-1])
        return step

    def accepted(self, secret):
        """Return "old", "both" or "new": what the issuer of a secret accepts."""
        check_secret(self._world, secret)
        return self._state.accepted(secret)

    def version(self, use):
        """Return "old" or "new": the version that a use holds."""
        check_use(self._world, use)
        return self._state.version(use)

    def known(self, index):
        """Return the list of the pairs (secret, version) that the outsider of a suspicion knows."""
        # True is an int to isinstance, but booleans are not integers here.
        if isinstance(index, bool) or not isinstance(index, int) or not 0 <= index < len(self._suspicions):
            raise BadNumber("not the index of a suspicion")
        return list(self._known[index])

    def possible(self):
        """Yield the steps that are not refused when the first one is requested."""
        steps = [step for step in all_steps(self._world) if not self._is_refused(step)]
        for step in steps:
            yield step

    def completion(self):
        """Return further steps that make the plan sound, with the cheapest carries, or None."""
        if self._lost:
            return None
        return cheapest_finish(self._world, self._suspicions, self._state)[1]
