"""The refusals: each is a class straight under SellError."""


class SellError(ValueError):
    """Any refusal."""


class NoWeb(SellError):
    """What should make a web makes none."""


class NoPlace(SellError):
    """A place that the web has not."""


class NoStanding(SellError):
    """A standing without a seller, or with one at a place that is none."""


class NoSeller(SellError):
    """A seller that the standing has not."""


class NoRest(SellError):
    """The standing does not rest."""


class TooMany(SellError):
    """More than is gone through."""


class NoMixture(SellError):
    """What should be a mixture is none."""


class NoTree(SellError):
    """The web is no tree."""


class NoPrices(SellError):
    """What should be a list of prices is none."""


class NoNumber(SellError):
    """A number that is too small."""


class NoText(SellError):
    """The text writes nothing that can be read."""


class NoForm(SellError):
    """The row has no form that the desk knows."""


class NoneYet(SellError):
    """The desk has no web yet, or no sellers."""
