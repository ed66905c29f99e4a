"""A live saying: clauses and sights that come and go, deed by deed, and may be taken back."""

from onlyseen.answers import many
from onlyseen.checks import renewed, want_clause, want_own, want_pick
from onlyseen.cores import core
from onlyseen.errors import InvalidClause, InvalidSaying, InvalidSight, Nothing
from onlyseen.settling import has_answers, settle
from onlyseen.shapes import are_owns, fits_saying
from onlyseen.sights import idle, less_seen, more_seen

CONTRARIES = {"put": "take", "take": "put", "show": "hide", "hide": "show"}


def behind(saying, deed):
    """The saying behind a deed."""
    picks, owns, clauses = saying
    if deed[0] == "put":
        return picks, owns, tuple(sorted(clauses + (deed[1],)))
    if deed[0] == "take":
        return picks, owns, tuple([clause for clause in clauses if clause != deed[1]])
    _, name, pick = deed
    return more_seen(saying, name, pick) if deed[0] == "show" else less_seen(saying, name, pick)


def is_seen(saying, name, pick):
    """Whether an own sees a pick."""
    return pick in dict(saying[1])[name]


class Live:
    """A saying that is worked on, without clauses at first."""

    def __init__(self, picks, owns):
        saying = (picks, owns, ())
        if not fits_saying(saying):
            raise InvalidSaying(renewed(saying))
        self._saying = saying
        self._deeds = []

    @property
    def saying(self):
        """The saying as it is now."""
        return self._saying

    @property
    def story(self):
        """The tuple of the deeds that stand, the eldest first."""
        return tuple(self._deeds)

    def _do(self, deed):
        """Does a deed that may be done, so that it stands."""
        self._saying = behind(self._saying, deed)
        self._deeds.append(deed)

    def put(self, clause):
        """A clause of its names stands from now on."""
        want_clause(self._saying, clause)
        if clause in self._saying[2]:
            raise InvalidClause(renewed(clause))
        self._do(("put", clause))

    def take(self, clause):
        """A clause that stands does so no more."""
        want_clause(self._saying, clause)
        if clause not in self._saying[2]:
            raise InvalidClause(renewed(clause))
        self._do(("take", clause))

    def show(self, name, pick):
        """An own sees a pick from now on."""
        want_own(self._saying, name)
        want_pick(self._saying, pick)
        greater = more_seen(self._saying, name, pick)
        # The owns alone are looked at: more clauses than there may be are no matter of sights.
        if is_seen(self._saying, name, pick) or not are_owns(greater[1], greater[0]):
            raise InvalidSight((name, pick))
        self._do(("show", name, pick))

    def hide(self, name, pick):
        """An own sees a pick no more."""
        want_own(self._saying, name)
        want_pick(self._saying, pick)
        if not is_seen(self._saying, name, pick):
            raise InvalidSight((name, pick))
        self._do(("hide", name, pick))

    def back(self):
        """Takes the last deed back, which stands no more; returns its word."""
        if not self._deeds:
            raise Nothing(None)
        deed = self._deeds.pop()
        self._saying = behind(self._saying, (CONTRARIES[deed[0]],) + deed[1:])
        return deed[0]

    def has_answers(self):
        """Whether the saying has answers."""
        return has_answers(self._saying)

    def settle(self):
        """Answers by which the saying holds, or a refutation of it."""
        return settle(self._saying)

    def many(self):
        """The number of answers by which the saying holds."""
        return many(self._saying)

    def core(self):
        """The indexes of clauses that have no answers, but have some without any one of them."""
        return core(self._saying)

    def idle(self):
        """The list of the (name, pick) of the viewers for whom the pick is idle."""
        return idle(self._saying)

    def twin(self):
        """A live saying with the same deeds, which goes its own way."""
        other = Live(self._saying[0], self._saying[1])
        other._saying = self._saying
        other._deeds = list(self._deeds)
        return other

    def __len__(self):
        return len(self._saying[2])

    def __eq__(self, other):
        return isinstance(other, Live) and self._saying == other._saying
