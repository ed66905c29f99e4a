"""Letters that drive each other: rows of truths where what is told is easy.

A letter is twice the place of a copy, and one more for True, so that the
contrary of a letter is letter ^ 1. What is told is a list of tuples of
letters, one of which has to be so; a row is one list of truths, by places.
"""


def least_row(told, size):
    """The row whose True are True in each row that meets what is told, each with at most one letter of True.

    None if there is no such row.
    """
    rules = [(sum([1 << (letter >> 1) for letter in letters if not letter & 1]),
              sum([1 << (letter >> 1) for letter in letters if letter & 1])) for letters in told]
    trues = 0
    growing = True
    while growing:
        growing = False
        waiting = []
        for needed, made in rules:
            if needed & ~trues:
                waiting.append((needed, made))
            elif not made:
                return None
            elif made & ~trues:
                trues |= made
                growing = True
        rules = waiting
    return [bool(trues >> place & 1) for place in range(size)]


def drives_of(told, size):
    """Of each letter the list of those that it drives, where one letter or two are told each time."""
    drives = [[] for _ in range(2 * size)]
    for letters in told:
        # What is told alone is driven by its contrary, as if it was told twice.
        one, other = letters[0], letters[-1]
        drives[one ^ 1].append(other)
        if one != other:
            drives[other ^ 1].append(one)
    return drives


def driven_from(drives, start):
    """The letters that are driven from one, by ways as short as can be: each with the letter that drives it there."""
    found = {start: None}
    waiting = [start]
    at = 0
    while at < len(waiting):
        letter = waiting[at]
        at += 1
        for other in drives[letter]:
            if other not in found:
                found[other] = letter
                waiting.append(other)
    return found


def way_to(letter, driven):
    """The letters from the one from which all is driven to this one."""
    way = [letter]
    while driven[way[-1]] is not None:
        way.append(driven[way[-1]])
    return way[::-1]


def row_by_drives(drives):
    """A row in which, with each letter that is so, all letters are so that it drives; None if there is none."""
    row = [None] * (len(drives) // 2)
    for place in range(len(row)):
        if row[place] is None:
            driven = driven_from(drives, 2 * place)
            if 2 * place + 1 in driven:
                driven = driven_from(drives, 2 * place + 1)
                if 2 * place in driven:
                    return None
            # No truth that is told already changes: what drives its contrary would have been told with it.
            for letter in driven:
                row[letter >> 1] = bool(letter & 1)
    return row


def both_ways(drives):
    """Of the first place that has such ways: the one from its letter True to False, and the one back; or None."""
    for place in range(len(drives) // 2):
        one = driven_from(drives, 2 * place + 1)
        if 2 * place in one:
            other = driven_from(drives, 2 * place)
            if 2 * place + 1 in other:
                return way_to(2 * place, one), way_to(2 * place + 1, other)
    return None
