"""Marked sayings: what is one, what it is by the truths of copies, and short ones made of others."""

from onlyseen.shapes import is_truth
from onlyseen.steps import has_head, is_copy

ALWAYS = ("true",)
NEVER = ("false",)


def fits_marked(value, places):
    """Whether an object is a marked saying of the copies that have places."""
    if has_head(value, "true", 1) or has_head(value, "false", 1):
        return True
    if has_head(value, "letter", 4):
        return is_copy(value[1:3], places) and is_truth(value[3])
    if has_head(value, "both", 3) or has_head(value, "either", 3):
        return fits_marked(value[1], places) and fits_marked(value[2], places)
    return False


def places_in(marked, places):
    """The dict of the places of the copies whose letters a marked saying has."""
    found = {}
    waiting = [marked]
    while waiting:
        part = waiting.pop()
        if part[0] == "letter":
            found[places[part[1:3]]] = True
        elif part[0] in ("both", "either"):
            waiting.append(part[1])
            waiting.append(part[2])
    return found


def so_by(marked, truths):
    """Whether a marked saying is so by the truths of copies."""
    if marked[0] == "letter":
        return truths[marked[1:3]] == marked[3]
    if marked[0] == "both":
        return so_by(marked[1], truths) and so_by(marked[2], truths)
    if marked[0] == "either":
        return so_by(marked[1], truths) or so_by(marked[2], truths)
    return marked == ALWAYS


def both_of(one, other):
    """What is so if both are."""
    if one == ALWAYS or other == NEVER:
        return other
    if other == ALWAYS or one == NEVER:
        return one
    return "both", one, other


def either_of(one, other):
    """What is so if one of two is, or both are."""
    if one == NEVER or other == ALWAYS:
        return other
    if other == NEVER or one == ALWAYS:
        return one
    return "either", one, other


def split_by(copy, with_true, with_false):
    """What is the one if a copy is True, the other if it is False."""
    if with_true == with_false:
        return with_true
    when_so = ("letter",) + copy + (True,)
    when_not = ("letter",) + copy + (False,)
    return either_of(both_of(when_so, with_true), both_of(when_not, with_false))
