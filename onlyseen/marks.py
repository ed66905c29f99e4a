"""What owns see at a play and what clauses tell there, of right arguments: nothing is checked."""


def all_plays(saying):
    """All plays of a saying, the last truth changing first."""
    found = [()]
    for _ in saying[0]:
        found = [play + (truth,) for play in found for truth in (False, True)]
    return found


def all_seen(sight):
    """All that can be seen by a sight, by the places in a table: the first truth changes first."""
    found = [()]
    for _ in sight:
        found = [truths + (truth,) for truth in (False, True) for truths in found]
    return found


def all_copies(saying):
    """All copies of a saying, own by own, by their places in its table."""
    return [(name, truths) for name, sight in saying[1] for truths in all_seen(sight)]


def truths_at(saying, play):
    """The truth of each pick at a play, by its name."""
    return dict(zip(saying[0], play))


def seen_by(sight, truths):
    """What a sight has of the truths of the picks."""
    return tuple([truths[pick] for pick in sight])


def place_in_table(truths):
    """The place in a table of what is seen."""
    return sum([1 << k for k, truth in enumerate(truths) if truth])


def marked_at(saying, clause, play):
    """The marked letters of a clause at a play; None if a letter of a pick is so."""
    truths = truths_at(saying, play)
    sights = dict(saying[1])
    marked = []
    for name, truth in clause:
        if name in sights:
            marked.append((name, seen_by(sights[name], truths), truth))
        elif truths[name] == truth:
            return None
    return tuple(marked)


def values_at(saying, answers, play):
    """The truth of each pick and of each own at a play, by its name."""
    truths = truths_at(saying, play)
    values = dict(truths)
    for (name, sight), table in zip(saying[1], answers):
        values[name] = table[place_in_table(seen_by(sight, truths))]
    return values


def tables_of(saying, row):
    """The answers with these truths, one for each copy."""
    tables = []
    start = 0
    for _, sight in saying[1]:
        end = start + (1 << len(sight))
        tables.append(tuple(row[start:end]))
        start = end
    return tuple(tables)
