"""The errors of the package; what is wrong in detail stands in their attributes."""


class RotateError(ValueError):
    """An argument violates a condition that the document names."""


class BadWorld(RotateError):
    """Not a world; part is the key or the use that is wrong, or None."""

    def __init__(self, part=None):
        super().__init__("not a world: see the attribute part")
        self.part = part


class BadSuspicion(RotateError):
    """Not a suspicion, or not a list or tuple of 1 to 3 of them."""


class BadUse(RotateError):
    """Not a use of the world, or not a list or tuple of uses as required."""


class BadSecret(RotateError):
    """Not a secret of the world, or not one that fits."""


class BadStep(RotateError):
    """Not a step, or not a plan; index is that of the wrong step, or None."""

    def __init__(self, index=None):
        super().__init__("not a step of a plan: see the attribute index")
        self.index = index


class BadKnot(RotateError):
    """Not a list or tuple of uses that could be a knot."""


class NothingDone(RotateError):
    """No step is left that could be undone."""


class BadNumber(RotateError):
    """Not the index of a suspicion."""


class BadText(RotateError):
    """Not a text of the required kind; row is the index of the line that is wrong."""

    def __init__(self, row=None):
        super().__init__("not a text of this kind: see the attribute row")
        self.row = row
