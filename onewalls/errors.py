"""The refusals of the program."""


class WallError(ValueError):
    """Any refusal."""


class NoNet(WallError):
    """What is handed in makes no net."""


class NoPlace(WallError):
    """What is handed in is no place of the net, or not two of them."""


class NoSide(WallError):
    """What is handed in is no side of the net."""


class NoText(WallError):
    """What is handed in is no text of a net."""
