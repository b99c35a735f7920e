"""The refusals: one class for each kind of thing that is refused."""


class FaultError(ValueError):
    """Any refusal."""


class NoKind(FaultError):
    """What stands for a kind is none, or is none that may stand there."""


class NoText(FaultError):
    """What stands for a text is none."""


class NoFault(FaultError):
    """What stands for the number of a fault is none, or is none that may stand there."""


class Empty(FaultError):
    """A sheaf would have no members."""


class NoWay(FaultError):
    """What stands for a way is none, or leads nowhere."""


class NoTest(FaultError):
    """What stands for a test is none."""


class NoProgram(FaultError):
    """What stands for a program is none."""


class NoBody(FaultError):
    """What stands for the name of a body is none."""


class NoRow(FaultError):
    """What stands for a row of the desk is none."""
