"""What the clauses of a saying tell at its plays, as demands of a search.

A letter is twice the place of a copy, and one more for True, as in a search.
"""

from onlyseen.marks import all_copies, all_plays, seen_by, truths_at


def places_of(saying):
    """The place of each copy of a saying."""
    return {copy: place for place, copy in enumerate(all_copies(saying))}


def copies_at(saying, places, play):
    """The place of the copy of each own at a play, by its name."""
    truths = truths_at(saying, play)
    return {name: places[(name, seen_by(sight, truths))] for name, sight in saying[1]}


def letters_of(clause, truths, places):
    """What a clause tells at a play, by the truths of the picks and the places of the copies there; None if nothing."""
    letters = []
    for name, truth in clause:
        if name in places:
            letters.append(2 * places[name] + truth)
        elif truths[name] == truth:
            return None
    return tuple(letters)


def grounds_of(saying):
    """Of each clause the dict of all that it tells, by letters, with the first play at which it does."""
    places = places_of(saying)
    found = [{} for _ in saying[2]]
    for play in all_plays(saying):
        truths = truths_at(saying, play)
        here = copies_at(saying, places, play)
        for clause, told in zip(saying[2], found):
            letters = letters_of(clause, truths, here)
            if letters is not None and letters not in told:
                told[letters] = play
    return found


def sources_of(saying):
    """All that the clauses tell, by letters, each with the first step that tells it."""
    found = {}
    for index, told in enumerate(grounds_of(saying)):
        for letters, play in told.items():
            if letters not in found:
                found[letters] = ("play", index, play)
    return found
