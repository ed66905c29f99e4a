"""Settling: answers by which a saying holds, or a refutation of it; what follows from it."""

from onlyseen.checks import renewed, want_clause, want_saying
from onlyseen.errors import NoAnswers
from onlyseen.grounds import copies_at, letters_of, places_of, sources_of
from onlyseen.marks import all_copies, all_plays, tables_of, truths_at
from onlyseen.search import Search, joined_bits
from onlyseen.steps import steps_needed


def search_for(saying, sources):
    """A search for answers by which a saying holds; its demands are numbered as the sources stand."""
    search = Search(len(all_copies(saying)))
    for letters in sources:
        search.demand(letters)
    return search


def needed_numbers(search):
    """The ascending list of the demands from which the search's empty one comes."""
    needed = {search.empty: True}
    for number in reversed(range(search.empty + 1)):
        if number in needed and search.chains[number] is not None:
            start, joins = search.chains[number]
            needed[start] = True
            needed.update({other: True for _, other in joins})
    return sorted(needed)


def refutation_by(saying, search, sources):
    """The refutation of a saying that a search has found."""
    plays = list(sources.values())
    every = all_copies(saying)
    steps = []
    # What was told once is not joined again: the indexes of steps by the letters that they tell, as bits.
    places = {}
    for number in needed_numbers(search):
        if search.chains[number] is None:
            places[search.full[number]] = len(steps)
            steps.append(plays[number])
        else:
            start, joins = search.chains[number]
            bits = search.full[start]
            for letter, other in joins:
                # The letter that goes out stands in what is joined so far, its contrary in the other one.
                pair = [places[bits], places[search.full[other]]]
                bits = joined_bits(bits, letter, search.full[other])
                if bits not in places:
                    places[bits] = len(steps)
                    steps.append(("join", pair[1 - (letter & 1)], pair[letter & 1], every[letter >> 1]))
    return steps_needed(steps)


def settle(saying):
    """("answers", answers) by which a saying holds, or ("refutation", refutation)."""
    want_saying(saying)
    sources = sources_of(saying)
    search = search_for(saying, sources)
    if search.solve([]):
        return "answers", tables_of(saying, search.found)
    return "refutation", refutation_by(saying, search, sources)


def has_answers(saying):
    """Whether a saying holds by some answers."""
    want_saying(saying)
    return search_for(saying, sources_of(saying)).solve([])


def first_answers(saying):
    """The first answers by which a saying holds, as their rows by copies compare; None if there are none."""
    want_saying(saying)
    search = search_for(saying, sources_of(saying))
    if not search.solve([]):
        return None
    row = list(search.found)
    for place in range(len(row)):
        if row[place]:
            ahead = [2 * other + row[other] for other in range(place)]
            if search.solve(ahead + [2 * place]):
                row = list(search.found)
    return tables_of(saying, row)


def barred_by(saying, clause, search):
    """The tuple (answers, play), as against tells it; None if the clause follows."""
    places = places_of(saying)
    for play in all_plays(saying):
        letters = letters_of(clause, truths_at(saying, play), copies_at(saying, places, play))
        if letters is not None and search.solve([letter ^ 1 for letter in letters]):
            return tables_of(saying, search.found), play
    return None


def against(saying, clause):
    """A tuple (answers, play): the saying holds by these answers, and the clause is not so by them at the play.

    None if the clause follows from the saying.
    """
    want_saying(saying)
    search = search_for(saying, sources_of(saying))
    if not search.solve([]):
        raise NoAnswers(renewed(saying))
    want_clause(saying, clause)
    return barred_by(saying, clause, search)


def follows(saying, clause):
    """Whether at each play, by all answers by which a saying holds, a clause has a letter that is so."""
    return against(saying, clause) is None
