"""Refutations: what their steps tell, and whether they are some."""

from onlyseen.checks import renewed, want_saying
from onlyseen.errors import InvalidRefutation, InvalidStep
from onlyseen.steps import is_refutation, marked_of, ranks_of, steps_behind, steps_needed, told_by_steps


def want_refutation(saying, refutation):
    """Raises InvalidRefutation for any object that is no refutation of the saying."""
    if not is_refutation(saying, refutation):
        raise InvalidRefutation(renewed(refutation))


def tells(saying, steps):
    """The list of the ascending tuples of marked letters that steps tell, one behind the other."""
    want_saying(saying)
    if not isinstance(steps, tuple):
        raise InvalidStep(renewed(steps))
    told = told_by_steps(saying, steps)
    if len(told) < len(steps):
        raise InvalidStep(len(told))
    every = list(ranks_of(saying))
    return [marked_of(bits, every) for bits in told]


def refutes(saying, value):
    """Whether any object is a refutation of a saying."""
    want_saying(saying)
    return is_refutation(saying, value)


def trimmed(saying, refutation):
    """A refutation without the steps from which the last one does not come, numbered anew."""
    want_saying(saying)
    want_refutation(saying, refutation)
    return steps_needed(refutation)


def used(saying, refutation):
    """The ascending tuple of the indexes of the clauses of the steps from which the last one comes."""
    want_saying(saying)
    want_refutation(saying, refutation)
    steps = [refutation[index] for index in steps_behind(refutation)]
    return tuple(sorted({step[1] for step in steps if step[0] == "play"}))
