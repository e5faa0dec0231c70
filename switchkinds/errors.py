"""The refusals: all stand under SwitchError, none under another."""


class SwitchError(ValueError):
    """Any refusal."""


class NoSwitch(SwitchError):
    """What was handed in is no switch function."""


class NoName(SwitchError):
    """There is no such name, setting, worth or number of names."""


class NoMove(SwitchError):
    """What was handed in is no move of these names."""


class Unlike(SwitchError):
    """Two functions have unlike numbers of names."""


class NoSums(SwitchError):
    """No function has these sums."""


class NoText(SwitchError):
    """Nothing is written so."""


class NoTerm(SwitchError):
    """What was handed in is no term of these names."""


class NoLabel(SwitchError):
    """What was handed in is no label, or nothing has it."""


class NoBack(SwitchError):
    """There is no step to take back or to do again."""
