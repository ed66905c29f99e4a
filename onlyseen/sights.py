"""Sights: which picks of them are without use, and least ones that are enough."""

from onlyseen.checks import renewed, want_own, want_pick, want_saying
from onlyseen.errors import InvalidSaying, NoAnswers
from onlyseen.grounds import sources_of
from onlyseen.marks import all_copies
from onlyseen.search import Search
from onlyseen.shapes import fits_saying, is_letter, is_pair, is_rising


def viewers_of(saying, pick):
    """The names of the owns whose sight has a pick."""
    return [name for name, sight in saying[1] if pick in sight]


def letters_beside(saying, viewers, letter):
    """The letters of viewers, but this letter itself, in the clauses that have it."""
    return [other for clause in saying[2] if letter in clause
            for other in clause if other != letter and other[0] in viewers]


def all_reached(saying, pick, truth):
    """The ascending tuple of the letters reached from a letter of a pick."""
    viewers = viewers_of(saying, pick)
    found = {}
    waiting = letters_beside(saying, viewers, (pick, truth))
    while waiting:
        letter = waiting.pop()
        if letter not in found:
            found[letter] = True
            waiting.extend(letters_beside(saying, viewers, (letter[0], not letter[1])))
    return tuple(sorted(found))


def paper_of(saying, pick):
    """The letters reached from a pick's letter True, and those from its letter False."""
    return all_reached(saying, pick, True), all_reached(saying, pick, False)


def hangs_by(paper, name):
    """Whether the one half has a letter of an own, and the other half its contrary."""
    return any([(name, truth) in paper[0] and (name, not truth) in paper[1] for truth in (False, True)])


def idle_owns(saying, pick):
    """The names of the viewers for whom a pick is idle."""
    paper = paper_of(saying, pick)
    return [name for name in viewers_of(saying, pick) if not hangs_by(paper, name)]


def all_idle(saying):
    """The ascending list of the (name, pick) of the viewers for whom the pick is idle."""
    return sorted([(name, pick) for pick in saying[0] for name in idle_owns(saying, pick)])


def with_sights(saying, sights):
    """The saying with these sights of its owns."""
    owns = [(own[0], sight) for own, sight in zip(saying[1], sights)]
    return saying[0], tuple(owns), saying[2]


def less_seen(saying, name, pick):
    """The saying in which an own does not see a pick."""
    return with_sights(saying, [tuple([other for other in sight if own != name or other != pick])
                                for own, sight in saying[1]])


def more_seen(saying, name, pick):
    """The saying, or what is none as it has too many copies, in which an own sees a pick."""
    return with_sights(saying, [tuple(sorted(sight + (pick,))) if own == name and pick not in sight else sight
                                for own, sight in saying[1]])


def reached(saying, pick, truth):
    """The ascending tuple of the letters reached from a letter of a pick."""
    want_saying(saying)
    want_pick(saying, pick)
    return all_reached(saying, pick, truth)


def hangs(saying, name, pick):
    """Whether an own is a viewer of a pick, and hangs on it."""
    want_saying(saying)
    want_own(saying, name)
    want_pick(saying, pick)
    # Letters of viewers alone are reached.
    return hangs_by(paper_of(saying, pick), name)


def idle(saying):
    """The ascending list of the (name, pick) of the viewers for whom the pick is idle."""
    want_saying(saying)
    return all_idle(saying)


def are_letters_of(value, viewers):
    """Whether an object is an ascending tuple of letters of viewers."""
    if not isinstance(value, tuple) or not all([is_letter(part) and part[0] in viewers for part in value]):
        return False
    return is_rising(value)


def is_closed(saying, viewers, pick_letter, letters):
    """Whether the letters have what is reached from a letter of a pick, and from each of them."""
    asked = letters_beside(saying, viewers, pick_letter)
    for name, truth in letters:
        asked.extend(letters_beside(saying, viewers, (name, not truth)))
    return all([letter in letters for letter in asked])


def idle_holds(saying, name, pick, value):
    """Whether any object is a paper that a pick is idle for an own."""
    want_saying(saying)
    want_own(saying, name)
    want_pick(saying, pick)
    viewers = viewers_of(saying, pick)
    if name not in viewers or not is_pair(value) or not all([are_letters_of(half, viewers) for half in value]):
        return False
    if hangs_by(value, name):
        return False
    return all([is_closed(saying, viewers, (pick, truth), half) for truth, half in zip((True, False), value)])


def idle_paper(saying, name, pick):
    """A paper that a pick is idle for an own; None if the own hangs on it, or does not see it."""
    want_saying(saying)
    want_own(saying, name)
    want_pick(saying, pick)
    paper = paper_of(saying, pick)
    if name not in viewers_of(saying, pick) or hangs_by(paper, name):
        return None
    return paper


def without_sight(saying, name, pick):
    """The saying in which an own does not see a pick."""
    want_saying(saying)
    want_own(saying, name)
    want_pick(saying, pick)
    return less_seen(saying, name, pick)


def with_sight(saying, name, pick):
    """The saying in which an own sees a pick; InvalidSaying with what comes of it, if that is none."""
    want_saying(saying)
    want_own(saying, name)
    want_pick(saying, pick)
    greater = more_seen(saying, name, pick)
    if not fits_saying(greater):
        raise InvalidSaying(renewed(greater))
    return greater


def thinned(saying):
    """The saying behind taking, again and again, the first of the idle from its sight."""
    want_saying(saying)
    found = all_idle(saying)
    while found:
        name, pick = found[0]
        saying = less_seen(saying, name, pick)
        found = all_idle(saying)
    return saying


def would_be_idle(saying, name, pick):
    """Whether a pick that an own does not see would be idle for it, and a saying would come."""
    greater = more_seen(saying, name, pick)
    return fits_saying(greater) and not hangs_by(paper_of(greater, pick), name)


def could_see(saying):
    """The ascending list of the (name, pick) such that the own does not see the pick, which would be idle for it."""
    want_saying(saying)
    return [(name, pick) for name, sight in saying[1] for pick in saying[0]
            if pick not in sight and would_be_idle(saying, name, pick)]


def parts_of(sight):
    """All tuples of some of the picks of a sight, in their sequence."""
    found = [()]
    for pick in sight:
        found = found + [part + (pick,) for part in found]
    return found


def all_sights(saying):
    """All tuples of sights that are parts of those of a saying, the ones with the fewest picks ahead."""
    found = [(0, ())]
    for _, sight in saying[1]:
        parts = parts_of(sight)
        found = [(many + len(part), sights + (part,)) for many, sights in found for part in parts]
    return [sights for _, sights in sorted(found)]


def tied_copies(saying):
    """Of each (name, pick) of a sight the places of the copies that differ in this pick alone, in pairs."""
    found = {}
    start = 0
    for name, sight in saying[1]:
        for k, pick in enumerate(sight):
            found[(name, pick)] = [(start + at, start + at + (1 << k)) for at in range(1 << len(sight))
                                   if not at >> k & 1]
        start += 1 << len(sight)
    return found


def search_with_ties(saying, ties):
    """A search for answers of a saying that has, behind the copies, a place for each tie.

    While that is True, the own does not see the pick: its copies in each pair are alike.
    """
    size = len(all_copies(saying))
    search = Search(size + len(ties))
    for letters in sources_of(saying):
        search.demand(letters)
    for index, pairs in enumerate(ties.values()):
        for one, other in pairs:
            search.demand((2 * one, 2 * other + 1, 2 * (size + index)))
            search.demand((2 * one + 1, 2 * other, 2 * (size + index)))
    return search


def least_sights(saying):
    """The tuple of sights, parts of those of a saying, with the fewest picks with which it has answers.

    The first one of these, as tuples compare.
    """
    want_saying(saying)
    ties = tied_copies(saying)
    search = search_with_ties(saying, ties)
    letters = {tie: 2 * (len(all_copies(saying)) + index) + 1 for index, tie in enumerate(ties)}
    barred = []
    for sights in all_sights(saying):
        kept = [(own[0], pick) for own, sight in zip(saying[1], sights) for pick in sight]
        dropped = [letters[tie] for tie in ties if tie not in kept]
        if not any([all([letter in dropped for letter in failed]) for failed in barred]):
            if search.solve(dropped):
                return sights
            # Nothing that drops all of these has answers; nothing at all has, if there are none of them.
            barred.append(search.failed)
    raise NoAnswers(renewed(saying))
