"""Shorter sayings: cuts that leave something out, and the ways back of answers and refutations."""

from onlyseen.answers import first_broken
from onlyseen.checks import renewed, want_answers, want_saying
from onlyseen.errors import Broken, InvalidCut
from onlyseen.refutations import want_refutation
from onlyseen.shapes import fits_clause, is_letter
from onlyseen.steps import has_head


def reduced(clause, name):
    """A clause without its letter of a name."""
    return tuple([letter for letter in clause if letter[0] != name])


def unseen_picks(saying, clause):
    """The picks in a clause that no own in it sees."""
    sights = dict(saying[1])
    names = [name for name, _ in clause]
    seen = {pick: True for name in names if name in sights for pick in sights[name]}
    return [name for name in names if name not in sights and name not in seen]


def reduce_cuts(saying):
    """All cuts by which a letter of a pick goes out of a clause."""
    return [("reduce", clause, pick) for clause in saying[2] for pick in unseen_picks(saying, clause)]


def is_swallowed(saying, clause):
    """Whether a clause has all letters of another clause."""
    return any([other != clause and all([letter in clause for letter in other]) for other in saying[2]])


def swallow_cuts(saying):
    """All cuts by which a clause goes."""
    return [("swallow", clause) for clause in saying[2] if is_swallowed(saying, clause)]


def pure_cuts(saying):
    """All cuts by which an own goes."""
    met = {letter: True for clause in saying[2] for letter in clause}
    return [("pure", name, truth) for name, _ in saying[1] for truth in (False, True) if (name, not truth) not in met]


def fits_cut(saying, value):
    """Whether an object is a cut of a saying."""
    # The kinds first: 1 for True would be found among the cuts.
    if has_head(value, "pure", 3):
        return is_letter(value[1:]) and value in pure_cuts(saying)
    if has_head(value, "swallow", 2):
        return fits_clause(saying, value[1]) and value in swallow_cuts(saying)
    if has_head(value, "reduce", 3):
        return fits_clause(saying, value[1]) and isinstance(value[2], str) and value in reduce_cuts(saying)
    return False


def want_cut(saying, cut):
    """Raises InvalidCut for any object that is no cut of the saying."""
    if not fits_cut(saying, cut):
        raise InvalidCut(renewed(cut))


def left_behind(saying, cut):
    """The saying behind a cut."""
    picks, owns, clauses = saying
    if cut[0] == "pure":
        owns = tuple([own for own in owns if own[0] != cut[1]])
        return picks, owns, tuple([clause for clause in clauses if cut[1:] not in clause])
    others = [clause for clause in clauses if clause != cut[1]]
    if cut[0] == "reduce":
        less = reduced(cut[1], cut[2])
        if less not in others:
            others.append(less)
    return picks, owns, tuple(sorted(others))


def first_cut(saying):
    """The first cut of a saying; None if there is none."""
    # As they compare, all pure ones stand ahead of all others, and all that reduce ahead of all that swallow.
    found = pure_cuts(saying) or reduce_cuts(saying) or swallow_cuts(saying)
    return found[0] if found else None


def cuts(saying):
    """The ascending list of all cuts of a saying."""
    want_saying(saying)
    return pure_cuts(saying) + reduce_cuts(saying) + swallow_cuts(saying)


def after_cut(saying, cut):
    """The saying behind a cut."""
    want_saying(saying)
    want_cut(saying, cut)
    return left_behind(saying, cut)


def shorter(saying):
    """The tuple (saying, list of cuts) behind taking, again and again, the first cut."""
    want_saying(saying)
    done = []
    cut = first_cut(saying)
    while cut is not None:
        done.append(cut)
        saying = left_behind(saying, cut)
        cut = first_cut(saying)
    return saying, done


def all_behind(saying, cuts):
    """The list of the sayings ahead of all cuts and behind each of them."""
    if not isinstance(cuts, list):
        raise InvalidCut(renewed(cuts))
    found = [saying]
    for cut in cuts:
        want_cut(found[-1], cut)
        found.append(left_behind(found[-1], cut))
    return found


def answers_back(saying, cuts, answers):
    """Answers of a saying that are as those of what is left behind cuts; a pure own is its truth throughout."""
    want_saying(saying)
    left = all_behind(saying, cuts)[-1]
    want_answers(left, answers)
    if first_broken(left, answers) is not None:
        raise Broken(renewed(answers))
    tables = {own[0]: table for own, table in zip(left[1], answers)}
    truths = {cut[1]: cut[2] for cut in cuts if cut[0] == "pure"}
    return tuple([tables[name] if name in tables else (truths[name],) * (1 << len(sight)) for name, sight in saying[1]])


def origin_of(clause, behind, cuts):
    """The clause of the first saying from which one of the last comes, and the picks that have gone out of it.

    Each of these picks has the truth by which its letter is not so, so that both clauses tell the same there.
    """
    truths = {}
    for at in reversed(range(len(cuts))):
        if clause not in behind[at][2]:
            _, clause, name = cuts[at]
            truths[name] = not dict(clause)[name]
    return clause, truths


def refutation_back(saying, cuts, refutation):
    """A refutation of a saying with just as many steps as that of what is left behind cuts."""
    want_saying(saying)
    behind = all_behind(saying, cuts)
    want_refutation(behind[-1], refutation)
    origins = [origin_of(clause, behind, cuts) for clause in behind[-1][2]]
    steps = []
    for step in refutation:
        if step[0] == "play":
            clause, truths = origins[step[1]]
            play = tuple([truths.get(pick, truth) for pick, truth in zip(saying[0], step[2])])
            step = ("play", saying[2].index(clause), play)
        steps.append(step)
    return tuple(steps)
