"""The refusals: one class for each kind, all straight under TieError."""


class TieError(ValueError):
    """Any refusal."""


class NoWeb(TieError):
    """What was handed in as a web is none."""


class NoPlace(TieError):
    """What was handed in is no place of the web, or none that fits."""


class NoTie(TieError):
    """What was handed in is no tie's number, or there is no tie."""


class NoRound(TieError):
    """What was handed in is no round of the web, or the web has none."""


class NoTree(TieError):
    """What was handed in is no tree to the place."""


class NoNumber(TieError):
    """What was handed in is the number of nothing."""


class NoOrders(TieError):
    """What was handed in is no orders of the web."""


class NoTurn(TieError):
    """What was handed in is no turn of the round."""


class NoRolls(TieError):
    """What was handed in is not the rolls that are wanted."""


class NoWay(TieError):
    """What was handed in is no way of the web."""


class NoRules(TieError):
    """What was handed in is no rules of the web."""


class TooMany(TieError):
    """There are more than can be told."""


class NoText(TieError):
    """What was handed in does not write what was to be read."""


class NoAsk(TieError):
    """What was handed in is no line that the desk answers."""
