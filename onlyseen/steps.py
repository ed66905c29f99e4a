"""What the steps of a refutation tell, read from any object.

A set of marked letters is one number here, with a bit for each letter: first
those of all copies with False, as copies compare, then those with True.
"""

from onlyseen.marks import all_copies, marked_at
from onlyseen.shapes import are_truths, fits_play, is_integer, is_pair


def ranks_of(saying):
    """The rank of each copy of a saying, as copies compare."""
    return {copy: rank for rank, copy in enumerate(sorted(all_copies(saying)))}


def bit_of(copy, truth, ranks):
    """The bit of a marked letter."""
    return 1 << (ranks[copy] + len(ranks) * truth)


def marked_of(bits, every):
    """The ascending tuple of the marked letters of a number, of copies in their sequence."""
    return tuple([copy + (truth,) for rank, copy in enumerate(every)
                  for truth in (False, True) if bits >> (rank + len(every) * truth) & 1])


def has_head(value, head, many):
    """Whether an object is a tuple of so many parts that begins with this text."""
    return isinstance(value, tuple) and len(value) == many and isinstance(value[0], str) and value[0] == head


def is_index(value, end):
    """Whether an object is an integer from 0 on, below the end."""
    return is_integer(value) and 0 <= value < end


def told_by_play(saying, step, ranks):
    """What a step tells of a clause at a play; None if it is no such step."""
    _, index, play = step
    if not is_index(index, len(saying[2])) or not fits_play(saying, play):
        return None
    marked = marked_at(saying, saying[2][index], play)
    if marked is None:
        return None
    return sum([bit_of((name, truths), truth, ranks) for name, truths, truth in marked])


def is_copy(value, ranks):
    """Whether an object is one of the copies."""
    if not is_pair(value) or not isinstance(value[0], str) or not isinstance(value[1], tuple):
        return False
    # 1 for True would be found among the copies.
    return are_truths(value[1], len(value[1])) and value in ranks


def told_by_join(step, told, ranks):
    """What a step tells that joins two of those that told this; None if it is no such step."""
    _, with_true, with_false, copy = step
    if not is_index(with_true, len(told)) or not is_index(with_false, len(told)) or not is_copy(copy, ranks):
        return None
    so = bit_of(copy, True, ranks)
    not_so = bit_of(copy, False, ranks)
    if not told[with_true] & so or not told[with_false] & not_so:
        return None
    bits = (told[with_true] | told[with_false]) & ~(so | not_so)
    # Bits of False that have the bit of True of the same copy.
    if bits & (bits >> len(ranks)):
        return None
    return bits


def told_by_steps(saying, steps):
    """What steps tell, one behind the other, up to the first one that is none there."""
    ranks = ranks_of(saying)
    told = []
    for step in steps:
        bits = None
        if has_head(step, "play", 3):
            bits = told_by_play(saying, step, ranks)
        elif has_head(step, "join", 4):
            bits = told_by_join(step, told, ranks)
        if bits is None:
            return told
        told.append(bits)
    return told


def is_refutation(saying, value):
    """Whether an object is a refutation of a saying."""
    if not isinstance(value, tuple) or not value:
        return False
    told = told_by_steps(saying, value)
    return len(told) == len(value) and told[-1] == 0


def steps_behind(refutation):
    """The ascending list of the indexes of the steps from which the last one comes."""
    coming = {len(refutation) - 1: True}
    for index in reversed(range(len(refutation))):
        if index in coming and refutation[index][0] == "join":
            coming[refutation[index][1]] = True
            coming[refutation[index][2]] = True
    return sorted(coming)


def steps_needed(refutation):
    """A refutation without the steps from which the last one does not come, numbered anew."""
    places = {index: place for place, index in enumerate(steps_behind(refutation))}
    steps = []
    for index in places:
        step = refutation[index]
        if step[0] == "join":
            step = ("join", places[step[1]], places[step[2]], step[3])
        steps.append(step)
    return tuple(steps)
