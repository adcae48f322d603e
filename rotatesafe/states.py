"""States: what the issuers accept, what the uses hold, and which messages were sent."""

ACCEPTED_VERSIONS = {"old": ("old",), "both": ("old", "new"), "new": ("new",)}


class State:
    """The state of a world while steps are taken, at first with everything old."""

    def __init__(self, world):
        self._world = world
        self._accepted = {secret: "old" for secret in world.secrets}
        self._held = {use: "old" for use in world.uses}
        self._messages = []

    def accepted(self, secret):
        """Return "old", "both" or "new": what the issuer of a secret accepts."""
        return self._accepted[secret]

    def version(self, use):
        """Return "old" or "new": the version that a use holds."""
        return self._held[use]

    def allows(self, step):
        """Return whether a step is possible."""
        word, secret = step[0], step[-1]
        if word == "mint":
            return self._accepted[secret] == "old"
        if word == "retire":
            return self._accepted[secret] == "both"
        use = step[1:]
        if word == "send" and len(self._world.channel(use)) == 0:
            return False
        return self._held[use] == "old" and self._accepted[secret] == "both"

    def take(self, step):
        """Take a step that is possible."""
        word, secret = step[0], step[-1]
        if word == "mint":
            self._accepted[secret] = "both"
        elif word == "retire":
            self._accepted[secret] = "new"
        else:
            if word == "send":
                self._messages.append(self._message(step[1:]))
            self._held[step[1:]] = "new"

    def _message(self, use):
        service, secret = use
        keys = [(other, self._held[(service, other)]) for other in self._world.channel(use)]
        return (secret, "new"), tuple(keys)

    def all_work(self):
        """Return whether all services work."""
        return all([self._held[use] in ACCEPTED_VERSIONS[self._accepted[use[1]]] for use in self._world.uses])

    def accepted_versions(self):
        """Return the list of the versions that issuers accept."""
        secrets = self._world.secrets
        return [(secret, version) for secret in secrets for version in ACCEPTED_VERSIONS[self._accepted[secret]]]

    def sent_messages(self):
        """Return the list of the messages that were sent so far."""
        return list(self._messages)


def state_after(world, steps):
    """Return the state after steps each of which is possible."""
    state = State(world)
    for step in steps:
        state.take(step)
    return state


def all_steps(world):
    """Return all steps of a world: mints, then sends and carries of each use, then retires."""
    steps = [("mint", secret) for secret in world.secrets]
    steps = steps + [(word, *use) for use in world.uses for word in ("send", "carry")]
    return steps + [("retire", secret) for secret in world.secrets]
