"""Refusing what is not wanted: each function raises the error for one kind of argument.

What is passed beside the argument in question is taken for what it should be.
"""

from onlyseen.errors import InvalidAnswers, InvalidClause, InvalidName, InvalidNumber, InvalidPlay, InvalidSaying
from onlyseen.shapes import (
    are_indexes, fits_answers, fits_clause, fits_play, fits_rows, fits_saying, is_integer, is_name,
)


def renewed(value):
    """The object with all its lists and tuples built anew.

    An error must not share a list with the caller, nor hold one list twice.
    """
    if isinstance(value, list):
        return [renewed(part) for part in value]
    if isinstance(value, tuple):
        return tuple([renewed(part) for part in value])
    return value


def want_saying(saying):
    """Raises InvalidSaying for any object that is no saying."""
    if not fits_saying(saying):
        raise InvalidSaying(renewed(saying))


def want_clause(saying, clause):
    """Raises InvalidClause for any object that is no clause of the names of the saying."""
    if not fits_clause(saying, clause):
        raise InvalidClause(renewed(clause))


def want_play(saying, play):
    """Raises InvalidPlay for any object that is no play of the saying."""
    if not fits_play(saying, play):
        raise InvalidPlay(renewed(play))


def want_answers(saying, answers):
    """Raises InvalidAnswers for any object that is no answers of the saying."""
    if not fits_answers(saying, answers):
        raise InvalidAnswers(renewed(answers))


def want_rows(saying, rows):
    """Raises InvalidAnswers for any object that is no list of truths, one for each copy."""
    if not fits_rows(saying, rows):
        raise InvalidAnswers(renewed(rows))


def want_own(saying, name):
    """Raises InvalidName for any object that is no own of the saying."""
    # The kind first: what is no text may compare in any way.
    if not is_name(name) or name not in [own[0] for own in saying[1]]:
        raise InvalidName(renewed(name))


def want_pick(saying, pick):
    """Raises InvalidName for any object that is no pick of the saying."""
    if not is_name(pick) or pick not in saying[0]:
        raise InvalidName(renewed(pick))


def want_number(number):
    """Raises InvalidNumber for any object that is no integer from 0 on."""
    if not is_integer(number) or number < 0:
        raise InvalidNumber(renewed(number))


def want_indexes(saying, indexes):
    """Raises InvalidNumber for any object that is no ascending tuple of indexes of clauses of the saying."""
    if not are_indexes(indexes, len(saying[2])):
        raise InvalidNumber(renewed(indexes))
