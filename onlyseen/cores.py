"""Cores: clauses of a saying that together have no answers, and clauses that have some."""

from itertools import combinations

from onlyseen.checks import renewed, want_indexes, want_saying
from onlyseen.errors import Holds
from onlyseen.grounds import grounds_of
from onlyseen.marks import all_copies
from onlyseen.search import Search


class Lots:
    """A search that can be asked for any of the clauses of a saying, the others left out."""

    def __init__(self, saying):
        self.size = len(all_copies(saying))
        self.grounds = grounds_of(saying)
        self.search = Search(self.size + len(self.grounds))
        # Each clause has one more place: while this is False, it asks for nothing.
        for index, told in enumerate(self.grounds):
            for letters in told:
                self.search.demand(letters + (2 * (self.size + index),))

    def barred(self, indexes):
        """The indexes of some of these clauses that together have no answers; None if all of these have some."""
        if self.search.solve([2 * (self.size + index) + 1 for index in indexes]):
            return None
        return sorted([(letter >> 1) - self.size for letter in self.search.failed])

    def is_met(self, index):
        """Whether a clause is so, at each play, by the answers that were found last."""
        found = self.search.found
        return all([any([found[letter >> 1] == (letter & 1) for letter in letters]) for letters in self.grounds[index]])

    def met(self):
        """The indexes of the clauses that are so by the answers that were found last."""
        return [index for index in range(len(self.grounds)) if self.is_met(index)]


def bits_of(indexes):
    """The indexes as one number, in which lots can be compared at once."""
    return sum([1 << index for index in indexes])


def lies_in(bits, others):
    """Whether a lot lies in one of these."""
    return any([bits & ~other == 0 for other in others])


def lies_around(bits, others):
    """Whether one of these lies in a lot."""
    return any([other & ~bits == 0 for other in others])


def core_in(lots, indexes):
    """Of clauses without answers some that have none, but have some without any one of them."""
    left = indexes
    for index in indexes:
        if index in left:
            barred = lots.barred([other for other in left if other != index])
            if barred is not None:
                left = barred
    return left


def is_core(saying, indexes):
    """Whether the clauses with these indexes together have no answers."""
    want_saying(saying)
    want_indexes(saying, indexes)
    return Lots(saying).barred(indexes) is not None


def core(saying):
    """The indexes of clauses that together have no answers, but have some without any one of them."""
    want_saying(saying)
    lots = Lots(saying)
    barred = lots.barred(list(range(len(saying[2]))))
    if barred is None:
        raise Holds(renewed(saying))
    return tuple(core_in(lots, barred))


def least_core(saying):
    """The first of the cores with the fewest clauses, as tuples compare."""
    want_saying(saying)
    lots = Lots(saying)
    kept = []
    for many in range(len(saying[2]) + 1):
        for chosen in combinations(range(len(saying[2])), many):
            if not lies_in(bits_of(chosen), kept):
                if lots.barred(chosen) is not None:
                    return chosen
                kept.append(bits_of(lots.met()))
    raise Holds(renewed(saying))


def needed_clauses(saying):
    """The ascending tuple of the indexes of the clauses that stand in every core."""
    want_saying(saying)
    lots = Lots(saying)
    every = list(range(len(saying[2])))
    barred = lots.barred(every)
    if barred is None:
        return tuple(every)
    needed = barred
    for index in barred:
        if index in needed:
            others = lots.barred([other for other in every if other != index])
            if others is not None:
                needed = [other for other in needed if other in others]
    return tuple(needed)


def largest_kept(saying):
    """The ascending list of the tuples of indexes of clauses that have answers, and lie in no larger such one."""
    want_saying(saying)
    lots = Lots(saying)
    kept = {}
    barred = []
    for many in range(len(saying[2]) + 1):
        for dropped in combinations(range(len(saying[2])), many):
            chosen = tuple([index for index in range(len(saying[2])) if index not in dropped])
            bits = bits_of(chosen)
            if not lies_in(bits, kept) and not lies_around(bits, barred):
                found = lots.barred(chosen)
                if found is None:
                    kept[bits] = chosen
                else:
                    barred.append(bits_of(core_in(lots, found)))
    return sorted(kept.values())
