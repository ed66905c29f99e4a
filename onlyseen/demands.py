"""What a saying demands of its rows, and what is left of it when some truths are known.

A row is one list of truths, one for each copy; a place is the index of a copy
in it. A demand is a tuple of letters (place, truth): a row meets it if it has
one of these truths at its place. A saying holds by answers exactly if their
row meets all its demands.
"""

from onlyseen.marks import all_copies, all_plays, marked_at


def demands_of(saying):
    """The demands of a saying, none of them twice."""
    places = {copy: place for place, copy in enumerate(all_copies(saying))}
    found = {}
    for play in all_plays(saying):
        for clause in saying[2]:
            marked = marked_at(saying, clause, play)
            if marked is not None:
                found[tuple([(places[(name, truths)], truth) for name, truths, truth in marked])] = True
    return list(found)


def is_met(demand, known):
    """Whether one of the letters of a demand is known to be so."""
    return any([known.get(place) == truth for place, truth in demand])


def unknown_letters(demand, known):
    """The letters of a demand whose places are not known."""
    return tuple([letter for letter in demand if letter[0] not in known])


def settled(demands, known):
    """Returns (known, demands): all that follows by demands with one letter left, and what is left open.

    None if nothing is left of a demand, so that no row meets all of them.
    """
    known = dict(known)
    while True:
        many_known = len(known)
        left = []
        for demand in demands:
            if not is_met(demand, known):
                letters = unknown_letters(demand, known)
                if not letters:
                    return None
                if len(letters) == 1:
                    known[letters[0][0]] = letters[0][1]
                else:
                    left.append(letters)
        demands = left
        if len(known) == many_known:
            return known, demands


def with_truth(state, place, truth):
    """What settled tells, from what it told, when one more truth is known; None if it cannot be."""
    known, demands = state
    if place not in known:
        more = dict(known)
        more[place] = truth
        return settled(demands, more)
    if known[place] == truth:
        return state
    return None


def parts_of(demands):
    """The demands in lists, so that demands in different ones have no place in common."""
    parts = []
    for demand in demands:
        places = {place: True for place, _ in demand}
        members = [demand]
        apart = []
        for others, theirs in parts:
            if any([place in others for place in places]):
                places.update(others)
                members = theirs + members
            else:
                apart.append((others, theirs))
        parts = apart + [(places, members)]
    return [members for _, members in parts]
