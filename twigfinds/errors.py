"""The refusals of the package."""


class TwigError(ValueError):
    """Any refusal."""


class NoTree(TwigError):
    """Something that is no tree, where a tree is asked for."""


class NoPart(TwigError):
    """Something that is no number of a part."""


class NoWay(TwigError):
    """Something that is none of the ways."""


class NoNumber(TwigError):
    """Something that is no number of a finding."""


class NoFinding(TwigError):
    """Something that is no finding."""


class TooMany(TwigError):
    """More than can be told or held."""


class NoLetter(TwigError):
    """Something that is no small letter."""


class NoText(TwigError):
    """Something that writes no tree."""


class NoName(TwigError):
    """A name by which no tree stands."""


class NoRow(TwigError):
    """Something that is no row of a desk."""
