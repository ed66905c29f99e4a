"""Counting the rows of a part: of demands that hang together by their places.

Some places, the inner ones, are not tried one truth at a time: their rows are
the bits of one integer, so that one `&` asks a demand of all of them. The bit
r stands for the row that has at the inner place k what the bit k of r tells.
The outer places are tried one by one, the most used ones first.
"""

# More inner places are faster still, but numbers of 2 ** 11 bits stay below 900 digits.
INNER = 11


def by_use(part):
    """The places of a part, those in the most demands first."""
    uses = {}
    for demand in part:
        for place, _ in demand:
            uses[place] = uses.get(place, 0) + 1
    return [place for _, place in sorted([(-uses[place], place) for place in uses])]


def rows_with(k, many):
    """The bits of the rows of so many places that are True at the place k."""
    width = 1 << k
    bits = ((1 << width) - 1) << width
    width += width
    while width < 1 << many:
        bits |= bits << width
        width += width
    return bits


def letter_bits(inner):
    """The bits of the rows with each letter of the inner places, by the letter."""
    every = (1 << (1 << len(inner))) - 1
    found = {}
    for k, place in enumerate(inner):
        found[(place, True)] = rows_with(k, len(inner))
        found[(place, False)] = every - found[(place, True)]
    return found


def barred_outer(demand, outer):
    """Returns (care, bad): a row of outer places has no letter of the demand if it is bad where care has bits."""
    care = bad = 0
    for place, truth in demand:
        if place in outer:
            care |= 1 << outer[place]
            if not truth:
                bad |= 1 << outer[place]
    return care, bad


def allowed_inner(demand, bits):
    """The bits of the inner rows with a letter of the demand."""
    allowed = 0
    for letter in demand:
        allowed |= bits.get(letter, 0)
    return allowed


def gathered(part, outer, inner):
    """For each (care, bad) of the demands the bits of the inner rows that all such demands allow."""
    ranks = {place: k for k, place in enumerate(outer)}
    bits = letter_bits(inner)
    found = {}
    for demand in part:
        key = barred_outer(demand, ranks)
        allowed = allowed_inner(demand, bits)
        found[key] = found[key] & allowed if key in found else allowed
    return found


def by_level(table, levels):
    """The tests (care, bad, allowed) by the last outer place that they ask for, and by its bad truth."""
    tests = [([], []) for _ in range(levels)]
    for care, bad in table:
        level = care.bit_length() - 1
        # Care 0 is no level: it holds of every outer row, from the start.
        if level >= 0:
            tests[level][bad >> level & 1].append((care, bad, table[(care, bad)]))
    return tests


def narrowed(rows, row, tests):
    """The bits of the inner rows that are left behind the tests that an outer row does not pass by itself."""
    for care, bad, allowed in tests:
        if row & care == bad:
            rows &= allowed
    return rows


def count_bits(bits):
    """How many bits of an integer are 1."""
    text = f"{bits:b}"
    return text.count("1")


def tally(part):
    """Returns (many, letters) of a part: how many rows of its places meet all its demands, and their letters.

    The letters are a dict: (place, truth) is a key if one of these rows has it.
    """
    order = by_use(part)
    outer = order[:-INNER]
    inner = order[-INNER:]
    table = gathered(part, outer, inner)
    tests = by_level(table, len(outer))
    many = trues = falses = some = 0
    open_rows = [(0, 0, table.get((0, 0), (1 << (1 << len(inner))) - 1))]
    while open_rows:
        level, row, rows = open_rows.pop()
        if level == len(outer):
            many += count_bits(rows)
            trues |= row
            falses |= (1 << level) - 1 - row
            some |= rows
            continue
        for truth in (0, 1):
            longer = row | truth << level
            left = narrowed(rows, longer, tests[level][truth])
            if left:
                open_rows.append((level + 1, longer, left))
    return many, letters_of(outer, trues, falses, inner, some)


def letters_of(outer, trues, falses, inner, some):
    """The letters that rows have: outer places by the bits of their truths, inner ones by the bits of the rows."""
    found = {}
    for k, place in enumerate(outer):
        if trues >> k & 1:
            found[(place, True)] = True
        if falses >> k & 1:
            found[(place, False)] = True
    bits = letter_bits(inner)
    for letter in bits:
        if some & bits[letter]:
            found[letter] = True
    return found
