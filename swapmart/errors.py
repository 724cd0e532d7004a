"""The refusals of the program."""


class MartError(ValueError):
    """Any refusal."""


class NoFit(MartError):
    """Lists whose lengths don't fit one another."""


class NoPart(MartError):
    """A stair that doesn't lie in the other one."""


class NoTariff(MartError):
    """A tariff that isn't let by."""


class TooMany(MartError):
    """More than can be told or kept."""


class Endless(MartError):
    """A mart whose worths don't end."""


class NoText(MartError):
    """What is no text of a purse."""


class NoName(MartError):
    """What is no name, or a name by which no kind stands."""


class NoRow(MartError):
    """What is no row of a desk."""


class Twice(MartError):
    """A kind that stands already."""
