"""Answers: whether a saying holds by them, how many there are, and which."""

from onlyseen.checks import renewed, want_answers, want_number, want_own, want_play, want_rows, want_saying
from onlyseen.demands import demands_of, parts_of, settled, with_truth
from onlyseen.errors import NoAnswers
from onlyseen.marks import all_copies, all_plays, tables_of, values_at
from onlyseen.tallies import tally


def first_broken(saying, answers):
    """The index of a clause and a play, as broken_at tells them."""
    for play in all_plays(saying):
        values = values_at(saying, answers, play)
        for index, clause in enumerate(saying[2]):
            if not any([values[name] == truth for name, truth in clause]):
                return index, play
    return None


def holds(saying, answers):
    """Whether a saying holds by answers."""
    want_saying(saying)
    want_answers(saying, answers)
    return first_broken(saying, answers) is None


def broken_at(saying, answers):
    """The tuple (index of a clause, play) of the first clause that is broken at the first play where one is.

    None if the saying holds by the answers.
    """
    want_saying(saying)
    want_answers(saying, answers)
    return first_broken(saying, answers)


def value_of(saying, answers, name, play):
    """The truth of an own at a play."""
    want_saying(saying)
    want_answers(saying, answers)
    want_own(saying, name)
    want_play(saying, play)
    return values_at(saying, answers, play)[name]


def answers_with(saying, rows):
    """The answers of one list of truths, one for each copy, by copies."""
    want_saying(saying)
    want_rows(saying, rows)
    return tables_of(saying, rows)


def count_rows(state, size):
    """The number of rows of this size that are left by what settled told."""
    if state is None:
        return 0
    known, demands = state
    total = 1
    free = size - len(known)
    for part in parts_of(demands):
        count, _ = tally(part)
        total *= count
        free -= len({at for demand in part for at, _ in demand})
    return total << free


def many(saying):
    """The number of answers by which a saying holds."""
    want_saying(saying)
    return count_rows(settled(demands_of(saying), {}), len(all_copies(saying)))


def nth(saying, number):
    """The answers with this number, from 0 on, of those by which a saying holds, as their rows compare.

    None if there are not so many.
    """
    want_saying(saying)
    want_number(number)
    size = len(all_copies(saying))
    state = settled(demands_of(saying), {})
    if number >= count_rows(state, size):
        return None
    row = []
    for at in range(size):
        with_false = with_truth(state, at, False)
        ahead = count_rows(with_false, size)
        if number < ahead:
            state = with_false
        else:
            number -= ahead
            state = with_truth(state, at, True)
        row.append(state[0][at])
    return tables_of(saying, row)


def place(saying, answers):
    """How many of the answers by which a saying holds stand ahead of these, by which it may hold or not."""
    want_saying(saying)
    want_answers(saying, answers)
    row = [truth for table in answers for truth in table]
    state = settled(demands_of(saying), {})
    total = 0
    for at, truth in enumerate(row):
        if state is None:
            return total
        if truth:
            total += count_rows(with_truth(state, at, False), len(row))
        state = with_truth(state, at, truth)
    return total


def fixed(saying):
    """The list of the marked copies (name, seen, truth) that are so in all answers by which a saying holds.

    They stand by copies. NoAnswers if there are no such answers.
    """
    want_saying(saying)
    state = settled(demands_of(saying), {})
    if state is None:
        raise NoAnswers(renewed(saying))
    known, demands = state
    found = dict(known)
    for part in parts_of(demands):
        count, letters = tally(part)
        if count == 0:
            raise NoAnswers(renewed(saying))
        for at, truth in letters:
            if (at, not truth) not in letters:
                found[at] = truth
    every = all_copies(saying)
    return [(every[at][0], every[at][1], found[at]) for at in sorted(found)]
