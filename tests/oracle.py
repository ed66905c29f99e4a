"""The document read a second time, as plainly as can be, and slowly: what the tests compare with.

Nothing of the package is imported here.
"""

import functools
import itertools
import re


def truth(value):
    return type(value) is bool


def name(value):
    return type(value) is str and re.fullmatch("[a-z]{1,8}", value) is not None


def ascending(parts):
    return list(parts) == sorted(set(parts))


def names(value):
    return type(value) is tuple and all(name(part) for part in value) and ascending(value)


def letter(value):
    return type(value) is tuple and len(value) == 2 and name(value[0]) and truth(value[1])


def open_clause(value):
    if type(value) is not tuple or not all(letter(part) for part in value):
        return False
    return ascending(value) and len({part[0] for part in value}) == len(value)


def saying(value):
    if type(value) is not tuple or len(value) != 3:
        return False
    picks, owns, clauses = value
    if not names(picks) or len(picks) > 6:
        return False
    if type(owns) is not tuple or len(owns) > 8:
        return False
    for own in owns:
        if type(own) is not tuple or len(own) != 2 or not name(own[0]) or not names(own[1]):
            return False
        if not set(own[1]) <= set(picks) or own[0] in picks:
            return False
    if not ascending([own[0] for own in owns]):
        return False
    if sum(2 ** len(own[1]) for own in owns) > 120:
        return False
    if type(clauses) is not tuple or len(clauses) > 40:
        return False
    every = set(picks) | {own[0] for own in owns}
    if not all(open_clause(part) and {one[0] for one in part} <= every for part in clauses):
        return False
    return ascending(clauses)


def clause(of, value):
    every = set(of[0]) | {own[0] for own in of[1]}
    return open_clause(value) and {one[0] for one in value} <= every


def play(of, value):
    return type(value) is tuple and len(value) == len(of[0]) and all(truth(part) for part in value)


def table(value, size):
    return type(value) is tuple and len(value) == size and all(truth(part) for part in value)


def answers(of, value):
    if type(value) is not tuple or len(value) != len(of[1]):
        return False
    return all(table(part, 2 ** len(own[1])) for part, own in zip(value, of[1]))


def rows(of, value):
    if type(value) is not list:
        return False
    return len(value) == sum(2 ** len(own[1]) for own in of[1]) and all(truth(part) for part in value)


def own(of, value):
    return type(value) is str and value in [one[0] for one in of[1]]


def plays(of):
    return list(itertools.product([False, True], repeat=len(of[0])))


def seen(of, who, at):
    sight = dict(of[1])[who]
    return tuple(at[of[0].index(pick)] for pick in sight)


def place_in_table(what):
    return sum(2 ** k for k in range(len(what)) if what[k])


def copies(of):
    found = []
    for who, sight in of[1]:
        every = itertools.product([False, True], repeat=len(sight))
        found += [(who, what) for what in sorted(every, key=place_in_table)]
    return found


def letters_at(of, which, at):
    found = []
    for who, wanted in which:
        if who in of[0]:
            if at[of[0].index(who)] is wanted:
                return None
        else:
            found.append((who, seen(of, who, at), wanted))
    return tuple(sorted(found))


def value_of(of, by, who, at):
    index = [one[0] for one in of[1]].index(who)
    return by[index][place_in_table(seen(of, who, at))]


def is_so(of, by, one, at):
    who, wanted = one
    if who in of[0]:
        return at[of[0].index(who)] is wanted
    return value_of(of, by, who, at) is wanted


def broken_at(of, by):
    for at in plays(of):
        for index, which in enumerate(of[2]):
            if not any(is_so(of, by, one, at) for one in which):
                return (index, at)
    return None


def answers_with(of, truths):
    left = list(truths)
    found = []
    for _, sight in of[1]:
        found.append(tuple(left[:2 ** len(sight)]))
        left = left[2 ** len(sight):]
    return tuple(found)


def every_answers(of):
    """All answers, whether the saying holds by them or not, as their rows by copies compare."""
    size = len(copies(of))
    return [answers_with(of, row) for row in itertools.product([False, True], repeat=size)]


def holding(of):
    """All answers by which a saying holds, in their sequence, by going through all."""
    return [by for by in every_answers(of) if broken_at(of, by) is None]


def fixed(of, those):
    """The copies that are one truth in all of these answers."""
    flat = [[one for part in by for one in part] for by in those]
    found = []
    for index, (who, what) in enumerate(copies(of)):
        values = {row[index] for row in flat}
        if len(values) == 1:
            found.append((who, what, values.pop()))
    return found


@functools.cache
def rows_with(size, index):
    """The rows in which the copy at this index, of so many, is True; the first copy weighs most."""
    width = 1 << (size - 1 - index)
    mask = ((1 << width) - 1) << width
    width *= 2
    while width < 1 << size:
        mask |= mask << width
        width *= 2
    return mask


class Truths:
    """All answers of a saying, none left out: bit n of chunk m tells of the row m * 2 ** (length of a chunk) + n.

    Rows are counted as they compare. This goes through 2 ** 24 rows in a second.
    """

    def __init__(self, of):
        self.of = of
        self.copies = copies(of)
        self.ahead = max(len(self.copies) - 16, 0)
        self.size = len(self.copies) - self.ahead
        self.every = (1 << (1 << self.size)) - 1
        told = {letters_at(of, which, at) for at in plays(of) for which in of[2]} - {None}
        demands = [self.split([(self.copies.index(one[:2]), one[2]) for one in marked]) for marked in told]
        self.chunks = []
        for outer in itertools.product([False, True], repeat=self.ahead):
            bits = self.every
            for letters, allowed in demands:
                if not any(outer[index] is wanted for index, wanted in letters):
                    bits &= allowed
            self.chunks.append(bits)

    def split(self, letters):
        """The letters of the copies ahead, and the rows of the others that have one of the other letters."""
        allowed = 0
        for index, wanted in letters:
            if index >= self.ahead:
                mask = rows_with(self.size, index - self.ahead)
                allowed |= mask if wanted else self.every ^ mask
        return [one for one in letters if one[0] < self.ahead], allowed

    def many(self):
        return sum(bits.bit_count() for bits in self.chunks)

    def without(self, marked):
        """Whether the saying holds by some answers by which none of these marked letters is so."""
        letters, allowed = self.split([(self.copies.index(one[:2]), one[2]) for one in marked])
        for outer, bits in zip(itertools.product([False, True], repeat=self.ahead), self.chunks):
            if bits & (self.every ^ allowed) and not any(outer[index] is wanted for index, wanted in letters):
                return True
        return False

    def follows(self, which):
        """Whether a clause has a letter that is so at each play, by all answers by which the saying holds."""
        told = {letters_at(self.of, which, at) for at in plays(self.of)} - {None}
        return not any(self.without(marked) for marked in told)

    def place(self, by):
        number = 0
        for part in by:
            for one in part:
                number = number * 2 + one
        chunk, row = divmod(number, 1 << self.size)
        before = sum(bits.bit_count() for bits in self.chunks[:chunk])
        return before + (self.chunks[chunk] & ((1 << row) - 1)).bit_count()

    def nth(self, number):
        for chunk, bits in enumerate(self.chunks):
            if number < bits.bit_count():
                rows = [row for row in range(1 << self.size) if bits >> row & 1]
                row = (chunk << self.size) + rows[number]
                size = len(self.copies)
                return answers_with(self.of, [bool(row >> (size - 1 - index) & 1) for index in range(size)])
            number -= bits.bit_count()
        return None

    def fixed(self):
        met = [set() for _ in self.copies]
        for chunk, bits in enumerate(self.chunks):
            if bits:
                for index in range(self.ahead):
                    met[index].add(bool(chunk >> (self.ahead - 1 - index) & 1))
                for index in range(self.size):
                    mask = rows_with(self.size, index)
                    if bits & mask:
                        met[self.ahead + index].add(True)
                    if bits & (self.every ^ mask):
                        met[self.ahead + index].add(False)
        return [(who, what, values.pop()) for (who, what), values in zip(self.copies, met) if len(values) == 1]


def demands(of):
    """All that the clauses tell at the plays: of each the number with bit 2 * place + truth for each letter."""
    places = {copy: place for place, copy in enumerate(copies(of))}
    told = {letters_at(of, which, at) for at in plays(of) for which in of[2]} - {None}
    return sorted({sum(1 << 2 * places[one[:2]] + one[2] for one in marked) for marked in told})


def contrary(bits):
    """The contraries of letters."""
    low = (4 ** 200 - 1) // 3
    return (bits & low) << 1 | bits >> 1 & low


def can_be_met(those, known=0):
    """Whether demands can be met while these letters are so, by trying one letter after the other."""
    while True:
        against = contrary(known)
        if known & against:
            return False
        those = [bits for bits in those if not bits & known]
        rests = [bits & ~against for bits in those]
        if 0 in rests:
            return False
        alone = [rest for rest in rests if not rest & (rest - 1)]
        if not alone:
            break
        for rest in alone:
            known |= rest
    if not those:
        return True
    letter = min(rests, key=int.bit_count)
    letter &= -letter
    return can_be_met(those, known | letter) or can_be_met(those, known | contrary(letter))


def first_row(of):
    """The first answers by which a saying holds, copy by copy; None if there are none."""
    those = demands(of)
    known = 0
    if not can_be_met(those):
        return None
    for place in range(len(copies(of))):
        known |= 1 << 2 * place + (not can_be_met(those, known | 1 << 2 * place))
    return answers_with(of, [bool(known >> 2 * place & 2) for place in range(len(copies(of)))])
