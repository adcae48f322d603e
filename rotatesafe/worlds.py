"""Worlds: services, the secrets that they use, and the channels on which they receive new ones."""

from rotatesafe.errors import BadSecret, BadUse, BadWorld

LETTERS = "abcdefghijklmnopqrstuvwxyz"
LONGEST_NAME = 8
MOST_USES = 12
MOST_SECRETS = 6
LONGEST_CHANNEL = 3
LEAST_COST = 1
MOST_COST = 9


def is_name(value):
    """Return whether a value is a name of a service or a secret."""
    if not isinstance(value, str) or not 1 <= len(value) <= LONGEST_NAME:
        return False
    return all([letter in LETTERS for letter in value])


def _is_pair(value):
    return isinstance(value, tuple) and len(value) == 2


def _is_pair_of_names(value):
    return _is_pair(value) and is_name(value[0]) and is_name(value[1])


def _is_channel(use, channel, uses):
    if not isinstance(channel, tuple) or len(channel) > LONGEST_CHANNEL:
        return False
    service, secret = use
    for place, other in enumerate(channel):
        if not is_name(other) or (service, other) not in uses:
            return False
        if other == secret or other in channel[:place]:
            return False
    return True


def _is_cost(value):
    # True is an int to isinstance, but booleans are not integers here.
    if isinstance(value, bool) or not isinstance(value, int):
        return False
    return LEAST_COST <= value <= MOST_COST


def _fits(use, value, uses):
    return _is_pair(value) and _is_channel(use, value[0], uses) and _is_cost(value[1])


def _check_rows(rows):
    """Raise BadWorld if pairs of a use and its value do not form a world."""
    if not 1 <= len(rows) <= MOST_USES:
        raise BadWorld(None)
    uses = [row[0] for row in rows]
    for use in uses:
        if not _is_pair_of_names(use):
            raise BadWorld(use)
    if len(set([use[1] for use in uses])) > MOST_SECRETS:
        raise BadWorld(None)
    for use, value in rows:
        if not _fits(use, value, uses):
            raise BadWorld(use)


def _once_each(names):
    return list({name: True for name in names})


class World:
    """The uses of secrets by services, each with a channel and a courier cost; it never changes."""

    def __init__(self, uses):
        if not isinstance(uses, dict):
            raise BadWorld(None)
        rows = list(uses.items())
        _check_rows(rows)
        self._uses = [tuple(use) for use, value in rows]
        self._channels = {tuple(use): tuple(value[0]) for use, value in rows}
        self._costs = {tuple(use): value[1] for use, value in rows}
        self._services = _once_each([use[0] for use in self._uses])
        self._secrets = _once_each([use[1] for use in self._uses])

    @classmethod
    def of(cls, *rows):
        """Return the world of quadruples (service, secret, channel, cost)."""
        pairs = [((service, secret), (channel, cost)) for service, secret, channel, cost in rows]
        # Checked before the dict is built: not everything that stands for a name can be a key.
        _check_rows(pairs)
        return cls({use: value for use, value in pairs})

    @property
    def services(self):
        """The services, by their first uses."""
        return list(self._services)

    @property
    def secrets(self):
        """The secrets, by their first uses."""
        return list(self._secrets)

    @property
    def uses(self):
        """The uses, pairs (service, secret), in order."""
        return list(self._uses)

    def has_use(self, value):
        """Return whether a value, whatever it is, is a use of this world."""
        return _is_pair_of_names(value) and value in self._channels

    def has_secret(self, value):
        """Return whether a value, whatever it is, is a secret of this world."""
        return is_name(value) and value in self._secrets

    def channel(self, use):
        """Return the secrets of the channel of a use."""
        if not self.has_use(use):
            raise BadUse("not a use of the world")
        return self._channels[use]

    def cost(self, use):
        """Return the courier cost of a use."""
        if not self.has_use(use):
            raise BadUse("not a use of the world")
        return self._costs[use]

    def users(self, secret):
        """Yield the uses of a secret, in order."""
        if not self.has_secret(secret):
            raise BadSecret("not a secret of the world")
        for use in self._uses:
            if use[1] == secret:
                yield use

    def __eq__(self, other):
        return (isinstance(other, World) and self._uses == other._uses
                and self._channels == other._channels and self._costs == other._costs)
