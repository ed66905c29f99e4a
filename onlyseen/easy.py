"""Easy kinds: plain sayings, twos and rows of sums, each by a way of its own."""

from onlyseen.chaining import both_ways, drives_of, least_row, row_by_drives
from onlyseen.checks import renewed, want_answers, want_saying
from onlyseen.errors import InvalidSums, NotPlain, NotTwos
from onlyseen.grounds import places_of, sources_of
from onlyseen.marks import all_copies, all_plays, tables_of, values_at
from onlyseen.shapes import are_indexes, fits_sums, is_name, is_pair, is_truth
from onlyseen.steps import is_copy
from onlyseen.sums import are_so, bars, paper_of, tables_by_sums


def letters_of_owns(saying, clause):
    """The letters of owns in a clause."""
    owns = [own[0] for own in saying[1]]
    return [letter for letter in clause if letter[0] in owns]


def fits_plain(saying):
    """Whether no clause of a saying has two letters of owns that are True."""
    return all([len([truth for _, truth in letters_of_owns(saying, clause) if truth]) <= 1 for clause in saying[2]])


def fits_twos(saying):
    """Whether each clause of a saying has one or two letters of owns."""
    return all([1 <= len(letters_of_owns(saying, clause)) <= 2 for clause in saying[2]])


def is_plain(saying):
    """Whether each clause of a saying has at most one letter of an own that is True."""
    want_saying(saying)
    return fits_plain(saying)


def is_twos(saying):
    """Whether each clause of a saying has one or two letters of owns."""
    want_saying(saying)
    return fits_twos(saying)


def least_true(saying):
    """The answers by which a plain saying holds whose True are True in all by which it holds.

    None if there are none.
    """
    want_saying(saying)
    if not fits_plain(saying):
        raise NotPlain(renewed(saying))
    row = least_row(list(sources_of(saying)), len(all_copies(saying)))
    return None if row is None else tables_of(saying, row)


def drives_in(saying):
    """Of each letter of the copies of twos those that it drives."""
    if not fits_twos(saying):
        raise NotTwos(renewed(saying))
    return drives_of(list(sources_of(saying)), len(all_copies(saying)))


def by_chains(saying):
    """Answers by which twos hold; None if there are none."""
    want_saying(saying)
    row = row_by_drives(drives_in(saying))
    return None if row is None else tables_of(saying, row)


def chains(saying):
    """Two chains from one truth of a copy to the other one, and back; None of twos with answers."""
    want_saying(saying)
    ways = both_ways(drives_in(saying))
    if ways is None:
        return None
    every = all_copies(saying)
    one, other = [tuple([every[letter >> 1] + (bool(letter & 1),) for letter in way]) for way in ways]
    return one, other


def letters_in(value, places):
    """The letters of an object that is a tuple of two marked letters at least; None if it is none."""
    if not isinstance(value, tuple) or len(value) < 2:
        return None
    found = []
    for part in value:
        if not isinstance(part, tuple) or len(part) != 3 or not is_copy(part[:2], places) or not is_truth(part[2]):
            return None
        found.append(2 * places[part[:2]] + part[2])
    return found


def are_driven(way, told):
    """Whether each next letter is told alone, or with the contrary of the one ahead."""
    for one, other in zip(way, way[1:]):
        if (other,) not in told and (one ^ 1, other) not in told and (other, one ^ 1) not in told:
            return False
    return True


def chains_hold(saying, value):
    """Whether any object is a paper of two chains of a saying."""
    want_saying(saying)
    if not is_pair(value):
        return False
    places = places_of(saying)
    one, other = [letters_in(part, places) for part in value]
    if one is None or other is None:
        return False
    # From True to False of a copy, and back.
    if not one[0] & 1 or one[-1] != one[0] ^ 1 or other[0] != one[-1] or other[-1] != one[0]:
        return False
    told = sources_of(saying)
    return are_driven(one, told) and are_driven(other, told)


def want_sums(row):
    """Raises InvalidSums for any object that is no row of sums."""
    if not fits_sums(row):
        raise InvalidSums(renewed(row))


def is_sums(value):
    """Whether any object is a row of sums."""
    return fits_sums(value)


def sums_answers(row):
    """Answers by which all sums of a row are so at each play; None if there are none."""
    want_sums(row)
    return tables_by_sums(row) if paper_of(row) is None else None


def sums_hold(row, answers):
    """Whether all sums of a row are so at each play by answers."""
    want_sums(row)
    want_answers(row, answers)
    return all([are_so(row, values_at(row, answers, play)) for play in all_plays(row)])


def sums_paper(row):
    """A paper that a row of sums has no answers; None of a row that has some."""
    want_sums(row)
    return paper_of(row)


def sums_paper_holds(row, value):
    """Whether any object is a paper that a row of sums has no answers."""
    want_sums(row)
    if not is_pair(value) or not are_indexes(value[1], len(row[2])):
        return False
    if value[0] is not None and (not is_name(value[0]) or value[0] not in row[0]):
        return False
    return bars(row, value[0], value[1])
