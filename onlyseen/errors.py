"""The errors of the package: each keeps, in `value`, what was refused."""


class SightError(ValueError):
    """Every error that the package raises is one."""

    def __init__(self, value):
        self.value = value


class InvalidSaying(SightError):
    """An object that is no saying."""


class InvalidPlay(SightError):
    """An object that is no play of the saying."""


class InvalidAnswers(SightError):
    """An object that is no answers of the saying."""


class InvalidClause(SightError):
    """An object that is no clause of the names of the saying."""


class InvalidNumber(SightError):
    """An integer out of what is told, or an object that is no such number."""


class InvalidName(SightError):
    """An object that is no own, or no pick, of the saying."""


class InvalidStep(SightError):
    """The index of a step that is none, or an object that is no tuple of steps."""


class InvalidRefutation(SightError):
    """An object that is no refutation of the saying."""


class NoAnswers(SightError):
    """A saying without answers where some are needed."""


class Holds(SightError):
    """A saying with answers where none may be."""


class InvalidSight(SightError):
    """A sight that cannot be changed so."""


class NotPlain(SightError):
    """A saying that is not plain."""


class NotTwos(SightError):
    """A saying that is not twos."""


class InvalidSums(SightError):
    """An object that is no row of sums."""


class InvalidNet(SightError):
    """An object that is no net."""


class InvalidGoal(SightError):
    """An object that is no goal for the net."""


class InvalidTables(SightError):
    """An object that is no tables of the blanks of the net."""


class InvalidMarked(SightError):
    """An object that is no marked saying of the copies of the saying."""


class InvalidCut(SightError):
    """An object that is no cut where it stands."""


class Broken(SightError):
    """Answers by which the saying does not hold."""


class Nothing(SightError):
    """No deed stands that could be taken back; the value is None."""


class Unreadable(SightError):
    """An object that is the text of nothing."""


class InvalidCommand(SightError):
    """An object that is no line of a command."""


class NotReady(SightError):
    """There is no saying to work on yet; the value is None."""
