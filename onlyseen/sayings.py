"""Sayings: what is one, and what its plays, owns, copies and clauses are."""

from onlyseen.checks import want_clause, want_own, want_play, want_saying
from onlyseen.marks import all_copies, all_plays, marked_at, seen_by, truths_at
from onlyseen.shapes import fits_answers, fits_clause, fits_play, fits_saying


def is_saying(value):
    """Whether any object is a saying."""
    return fits_saying(value)


def is_clause(saying, value):
    """Whether any object is a clause of the names of a saying."""
    want_saying(saying)
    return fits_clause(saying, value)


def is_play(saying, value):
    """Whether any object is a play of a saying."""
    want_saying(saying)
    return fits_play(saying, value)


def is_answers(saying, value):
    """Whether any object is answers of a saying."""
    want_saying(saying)
    return fits_answers(saying, value)


def plays(saying):
    """The list of all plays, the last truth changing first, False ahead of True."""
    want_saying(saying)
    return all_plays(saying)


def seen(saying, name, play):
    """The tuple of the truths that an own sees in a play."""
    want_saying(saying)
    want_own(saying, name)
    want_play(saying, play)
    return seen_by(dict(saying[1])[name], truths_at(saying, play))


def copies(saying):
    """The list of all copies, own by own, by their places in its table."""
    want_saying(saying)
    return all_copies(saying)


def letters_at(saying, clause, play):
    """The ascending tuple of the marked letters of a clause at a play.

    None if one of its letters of picks is so there.
    """
    want_saying(saying)
    want_clause(saying, clause)
    want_play(saying, play)
    return marked_at(saying, clause, play)
