"""Whether any object is a name, a clause, a saying, a play, answers.

Nothing here raises an error: each part is asked for its kind before it is
compared or looked up. A saying that a function is passed beside the object
is taken for one.
"""

SMALL = "abcdefghijklmnopqrstuvwxyz"
MOST_SIGNS = 8
MOST_PICKS = 6
MOST_OWNS = 8
MOST_CLAUSES = 40
MOST_COPIES = 120
MOST_SUMS = 40


def is_truth(value):
    """Whether an object is True or False; 1 and 0 are neither."""
    return value is True or value is False


def is_integer(value):
    """Whether an object is an integer, which True and False are not."""
    return isinstance(value, int) and not isinstance(value, bool)


def is_tuple(value, most):
    """Whether an object is a tuple of at most so many parts."""
    return isinstance(value, tuple) and len(value) <= most


def is_pair(value):
    """Whether an object is a tuple of two parts."""
    return isinstance(value, tuple) and len(value) == 2


def is_rising(parts):
    """Whether each part is below the next one, so that no two are alike."""
    return all([parts[k] < parts[k + 1] for k in range(len(parts) - 1)])


def are_indexes(value, many):
    """Whether an object is an ascending tuple of indexes, from 0 on, below so many."""
    if not isinstance(value, tuple) or not all([is_integer(index) for index in value]) or not is_rising(value):
        return False
    return not value or (value[0] >= 0 and value[-1] < many)


def is_name(value):
    """Whether an object is a text of 1 to 8 small letters."""
    if not isinstance(value, str) or not 1 <= len(value) <= MOST_SIGNS:
        return False
    return all([sign in SMALL for sign in value])


def is_letter(value):
    """Whether an object is a tuple (name, truth)."""
    return is_pair(value) and is_name(value[0]) and is_truth(value[1])


def is_any_clause(value):
    """Whether an object is a clause, of whatever names."""
    if not isinstance(value, tuple) or not all([is_letter(part) for part in value]):
        return False
    # Rising names alone: a name that stood with both truths would be there twice.
    return is_rising([letter[0] for letter in value])


def are_names(value, most):
    """Whether an object is an ascending tuple of at most so many names."""
    if not is_tuple(value, most) or not all([is_name(part) for part in value]):
        return False
    return is_rising(value)


def is_sight(value, picks):
    """Whether an object is an ascending tuple of some of the picks."""
    return are_names(value, len(picks)) and all([name in picks for name in value])


def is_own(value, picks):
    """Whether an object is a tuple (name, sight), the name being no pick."""
    if not is_pair(value) or not is_name(value[0]) or value[0] in picks:
        return False
    return is_sight(value[1], picks)


def are_owns(value, picks):
    """Whether an object is the owns of a saying with these picks."""
    if not is_tuple(value, MOST_OWNS) or not all([is_own(part, picks) for part in value]):
        return False
    if not is_rising([own[0] for own in value]):
        return False
    return sum([1 << len(own[1]) for own in value]) <= MOST_COPIES


def is_clause_over(value, names):
    """Whether an object is a clause all of whose names are among these."""
    return is_any_clause(value) and all([letter[0] in names for letter in value])


def are_clauses(value, names):
    """Whether an object is the clauses of a saying with these names."""
    if not is_tuple(value, MOST_CLAUSES):
        return False
    return all([is_clause_over(part, names) for part in value]) and is_rising(value)


def names_of(picks, owns):
    """The names of picks and of owns, in one list."""
    return list(picks) + [own[0] for own in owns]


def fits_saying(value):
    """Whether an object is a saying."""
    if not isinstance(value, tuple) or len(value) != 3:
        return False
    picks, owns, clauses = value
    if not are_names(picks, MOST_PICKS) or not are_owns(owns, picks):
        return False
    return are_clauses(clauses, names_of(picks, owns))


def is_sum(value, names):
    """Whether an object is a tuple (an ascending tuple of some of these names, truth)."""
    if not is_pair(value) or not are_names(value[0], len(names)) or not is_truth(value[1]):
        return False
    return all([name in names for name in value[0]])


def fits_sums(value):
    """Whether an object is a row of sums."""
    if not isinstance(value, tuple) or len(value) != 3:
        return False
    picks, owns, sums = value
    if not are_names(picks, MOST_PICKS) or not are_owns(owns, picks) or not is_tuple(sums, MOST_SUMS):
        return False
    names = names_of(picks, owns)
    return all([is_sum(part, names) for part in sums]) and is_rising(sums)


def fits_clause(saying, value):
    """Whether an object is a clause of the names of a saying."""
    return is_clause_over(value, names_of(saying[0], saying[1]))


def are_truths(value, many):
    """Whether an object is a tuple of just so many truths."""
    if not isinstance(value, tuple) or len(value) != many:
        return False
    return all([is_truth(part) for part in value])


def fits_play(saying, value):
    """Whether an object is a play of a saying."""
    return are_truths(value, len(saying[0]))


def fits_answers(saying, value):
    """Whether an object is answers of a saying."""
    owns = saying[1]
    if not isinstance(value, tuple) or len(value) != len(owns):
        return False
    return all([are_truths(table, 1 << len(own[1])) for own, table in zip(owns, value)])


def fits_rows(saying, value):
    """Whether an object is a list of as many truths as a saying has copies."""
    if not isinstance(value, list):
        return False
    return are_truths(tuple(value), sum([1 << len(own[1]) for own in saying[1]]))
