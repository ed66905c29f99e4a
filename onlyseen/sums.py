"""Rows of sums: equations over what owns take of each pick, or of none.

Each own is to be a sum of picks that it sees, and of True or of nothing. So
what the owns take of one pick is asked for by itself: in each sum an odd
number of them has to take the pick if it stands there, else an even one. With
None for the pick it is asked likewise which of them take True.
"""

from onlyseen.marks import all_seen


def viewers_of(row, pick):
    """The names of the owns that may take a pick: those that see it; with None all."""
    return [name for name, sight in row[1] if pick is None or pick in sight]


def equations_of(row, pick):
    """For each sum the tuple (bits of the viewers in it, whether an odd number of them has to take the pick)."""
    bits = {name: 1 << k for k, name in enumerate(viewers_of(row, pick))}
    return [(sum([bits[name] for name in names if name in bits]), truth if pick is None else pick in names)
            for names, truth in row[2]]


def solved(equations):
    """Returns (bits, None), by which all equations are so, or (None, bits of equations that together cannot be so)."""
    # By their greatest bits equations, each with the bits of those that it is the sum of.
    heads = {}
    for index, (bits, odd) in enumerate(equations):
        made = 1 << index
        while bits.bit_length() in heads:
            others, their_odd, theirs = heads[bits.bit_length()]
            bits ^= others
            odd = odd != their_odd
            made ^= theirs
        if bits:
            heads[bits.bit_length()] = (bits, odd, made)
        elif odd:
            return None, made
    taken = 0
    for length in sorted(heads):
        bits, odd, _ = heads[length]
        # Of the smaller bits all is told by now: those that head no equation are left out.
        if odd != is_odd(bits & taken):
            taken |= 1 << (length - 1)
    return taken, None


def is_odd(bits):
    """Whether an odd number of the bits of an integer are 1."""
    odd = False
    while bits:
        bits &= bits - 1
        odd = not odd
    return odd


def paper_of(row):
    """The tuple (pick or None, indexes) of sums that together cannot be so; None if there is none."""
    for pick in (None,) + row[0]:
        _, barred = solved(equations_of(row, pick))
        if barred is not None:
            return pick, tuple([index for index in range(len(row[2])) if barred >> index & 1])
    return None


def tables_by_sums(row):
    """Tables by which all sums are so, of a row that has no paper."""
    takes = {}
    for pick in (None,) + row[0]:
        taken, _ = solved(equations_of(row, pick))
        for k, name in enumerate(viewers_of(row, pick)):
            takes[(name, pick)] = bool(taken >> k & 1)
    tables = []
    for name, sight in row[1]:
        shares = [takes[(name, pick)] for pick in sight]
        tables.append(tuple([sum_of(truths, shares, takes[(name, None)]) for truths in all_seen(sight)]))
    return tuple(tables)


def sum_of(truths, shares, start):
    """Whether an odd number of these is True: the truths that have a share, and the start."""
    many = len([truth for truth, share in zip(truths, shares) if truth and share])
    return (many % 2 == 1) != start


def are_so(row, values):
    """Whether all sums are so by the truths of the names."""
    return all([(len([name for name in names if values[name]]) % 2 == 1) == truth for names, truth in row[2]])


def bars(row, pick, indexes):
    """Whether the sums with these indexes together cannot be so, by a pick or by None."""
    equations = equations_of(row, pick)
    bits = 0
    odd = False
    for index in indexes:
        bits ^= equations[index][0]
        odd = odd != equations[index][1]
    return bits == 0 and odd
