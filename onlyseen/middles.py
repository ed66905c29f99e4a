"""Middles: marked sayings that lie between two halves of a saying."""

from onlyseen.checks import renewed, want_answers, want_indexes, want_saying
from onlyseen.errors import Holds, InvalidMarked
from onlyseen.grounds import places_of, sources_of
from onlyseen.marked import ALWAYS, NEVER, fits_marked, places_in, so_by, split_by
from onlyseen.marks import all_copies, all_seen
from onlyseen.settling import has_answers, search_for


class Halves:
    """The clauses of a saying at some indexes, and the others; which copies both tell, and what they let be.

    Letters are twice the place of a copy, and one more for True.
    """

    def __init__(self, saying, first):
        self.every = all_copies(saying)
        one = [clause for index, clause in enumerate(saying[2]) if index in first]
        other = [clause for clause in saying[2] if clause not in one]
        told = [sources_of(saying[:2] + (tuple(half),)) for half in (one, other)]
        self.one, self.other = [search_for(saying, sources) for sources in told]
        places = [{letter >> 1: True for letters in sources for letter in letters} for sources in told]
        self.shared = [place for place in sorted(places[0]) if place in places[1]]

    def between(self, assumed, at):
        """A marked saying of the shared copies from this one on that is so by all answers of the one half.

        By none of the other half it is so. Only answers count by which the assumed letters are so.
        """
        if not self.one.solve(assumed):
            return NEVER
        if not self.other.solve(assumed):
            return ALWAYS
        place = self.shared[at]
        with_false = self.between(assumed + [2 * place], at + 1)
        with_true = self.between(assumed + [2 * place + 1], at + 1)
        return split_by(self.every[place], with_true, with_false)

    def has_between(self, marked, places):
        """Whether a marked saying is so by all answers of the one half, and by none of the other half.

        These are the places of its letters.
        """
        for chosen in all_seen(places):
            truths = {self.every[place]: truth for place, truth in zip(places, chosen)}
            half = self.other if so_by(marked, truths) else self.one
            if half.solve([2 * place + truth for place, truth in zip(places, chosen)]):
                return False
        return True


def middle(saying, first):
    """A marked saying between the halves of a saying without answers."""
    want_saying(saying)
    if has_answers(saying):
        raise Holds(renewed(saying))
    want_indexes(saying, first)
    return Halves(saying, first).between([], 0)


def is_middle(saying, first, value):
    """Whether any object is a marked saying between the halves of a saying."""
    want_saying(saying)
    want_indexes(saying, first)
    places = places_of(saying)
    if not fits_marked(value, places):
        return False
    halves = Halves(saying, first)
    needed = sorted(places_in(value, places))
    return all([place in halves.shared for place in needed]) and halves.has_between(value, needed)


def is_so(saying, marked, answers):
    """Whether a marked saying is so by answers."""
    want_saying(saying)
    if not fits_marked(marked, places_of(saying)):
        raise InvalidMarked(renewed(marked))
    want_answers(saying, answers)
    row = [truth for table in answers for truth in table]
    return so_by(marked, dict(zip(all_copies(saying), row)))
