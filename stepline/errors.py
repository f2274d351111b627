"""The refusals. All are told by LineError, and none stands under another one."""


class LineError(ValueError):
    """Any refusal."""


class NoLine(LineError):
    """A thing is no line."""


class NoRows(LineError):
    """A thing is no list of values, or of rows."""


class NoPlace(LineError):
    """A thing is no place of a line, or no length of one."""


class NoValue(LineError):
    """A thing is no value."""


class NoNumber(LineError):
    """A thing is no number of the kind that was asked for."""


class Unlike(LineError):
    """Two lines do not fit one another."""


class Falls(LineError):
    """A line is not a rising one."""


class TooGreat(LineError):
    """A value would not be one, or a line would be too long."""


class NoStep(LineError):
    """There is no change to take back."""


class NoDeed(LineError):
    """A thing is no deed."""


class NoText(LineError):
    """A thing is no text of a line."""


class NoWay(LineError):
    """A line is none of those that were asked for."""
