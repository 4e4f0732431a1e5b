"""The refusals, each a class of its own straight under BoxError."""


class BoxError(ValueError):
    """What all refusals are."""


class NoThing(BoxError):
    """There is no thing of this name."""


class Taken(BoxError):
    """A thing of this name is there already."""


class NoText(BoxError):
    """What was handed in isn't written as told."""


class NoLine(BoxError):
    """What was said is no line that a desk knows."""


class NoNumber(BoxError):
    """An ask of a row uses what is no number for it; row tells which ask."""

    def __init__(self, row):
        self.row = row
