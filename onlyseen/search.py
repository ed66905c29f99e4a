"""A search for truths that meet demands. Each dead end makes it learn one more demand.

A letter is a number here: twice its place, and one more for True, so that the
contrary of a letter is letter ^ 1. A demand is a list of letters one of which
has to be so. Demands are known by their numbers, in the order in which they
came. A learned one has a chain: the number of the demand that it began with,
and the joins, tuples (letter that goes out, number of a demand with its
contrary).
"""

SLOTS = 4096
FIRST_STEP = SLOTS << 8
MOST_STEP = SLOTS << 64
TURN = 16
MOST_LEARNED = 3000


def length_of_turn(turn):
    """How many dead ends the turn with this number, from 1 on, lasts: 1 1 2 1 1 2 4 1 1 2 .. times TURN."""
    while turn & (turn + 1):
        turn -= (1 << (turn.bit_length() - 1)) - 1
    return TURN * (turn + 1) // 2


def joined_bits(bits, letter, others):
    """The letters of a join, as bits: all of both, but the letter that goes out and its contrary."""
    return (bits | others) & ~(3 << (letter & -2))


class Search:
    """Demands over so many places, and what is known of them."""

    def __init__(self, size):
        self.size = size
        # Of each letter: 1 if it is so, -1 if it is not so, 0 if that is open.
        self.value = [0] * (2 * size)
        self.level = [0] * size
        self.reason = [None] * size
        self.trail = []
        self.ends = []
        self.head = 0
        self.demands = []
        self.chains = []
        # All letters of each demand, as bits, those out of the question for good too.
        self.full = []
        self.ones = []
        self.pairs = [[] for _ in range(2 * size)]
        self.watches = [[] for _ in range(2 * size)]
        self.learned = []
        # The weight of a place is below 0; its last bits are the place, so that sorting gives the places.
        self.weight = list(range(size))
        self.step = FIRST_STEP
        self.order = []
        self.cursor = 0
        self.last = [0] * size
        self.empty = None
        self.found = None
        self.failed = []

    def demand(self, letters):
        """Takes a demand up, which has no letter twice, nor with its contrary."""
        for letter in letters:
            self.weight[letter >> 1] -= FIRST_STEP >> min(len(letters), 8)
        number = self.enter(list(letters), sum([1 << letter for letter in letters]), None)
        if len(letters) == 1:
            self.ones.append(number)

    def enter(self, letters, full, chain):
        """Gives a demand the next number, and sees to its being followed up; returns the number."""
        number = len(self.demands)
        self.demands.append(letters)
        self.full.append(full)
        self.chains.append(chain)
        if len(letters) > 2:
            self.watches[letters[0]].append(number)
            self.watches[letters[1]].append(number)
        elif len(letters) == 2:
            self.pairs[letters[0]].append((letters[1], number))
            self.pairs[letters[1]].append((letters[0], number))
        elif not letters and self.empty is None:
            self.empty = number
        return number

    def tell(self, letter, number):
        """From now on the letter is so, by the demand with this number, or as it was chosen (None)."""
        self.value[letter] = 1
        self.value[letter ^ 1] = -1
        self.level[letter >> 1] = len(self.ends)
        self.reason[letter >> 1] = number
        self.trail.append(letter)

    def back_to(self, depth):
        """Forgets all that was told at greater depths."""
        if depth < len(self.ends):
            start = self.ends[depth]
            for letter in self.trail[start:]:
                self.value[letter] = 0
                self.value[letter ^ 1] = 0
                self.last[letter >> 1] = letter & 1
            del self.trail[start:]
            del self.ends[depth:]
            self.head = start
            self.cursor = 0

    def spread(self):
        """Follows up what is known; the number of a demand of which nothing is left, or None."""
        value = self.value
        while self.head < len(self.trail):
            gone = self.trail[self.head] ^ 1
            self.head += 1
            for other, number in self.pairs[gone]:
                if value[other] < 0:
                    return number
                if value[other] == 0:
                    self.tell(other, number)
            number = self.spread_from(gone)
            if number is not None:
                return number
        return None

    def spread_from(self, gone):
        """Follows up, in the demands of three letters and more, that a letter is not so."""
        value, demands, watches = self.value, self.demands, self.watches
        watching = watches[gone]
        kept = []
        watches[gone] = kept
        for at, number in enumerate(watching):
            letters = demands[number]
            if letters[0] == gone:
                letters[0] = letters[1]
                letters[1] = gone
            first = letters[0]
            if value[first] > 0:
                kept.append(number)
                continue
            for k in range(2, len(letters)):
                if value[letters[k]] >= 0:
                    letters[1] = letters[k]
                    letters[k] = gone
                    watches[letters[1]].append(number)
                    break
            else:
                kept.append(number)
                if value[first] < 0:
                    kept.extend(watching[at + 1:])
                    return number
                self.tell(first, number)
        return None

    def solve(self, assumed):
        """Whether all demands can be met while these letters are so.

        Then found has a truth for each place; else failed some of the letters that cannot all be so.
        """
        self.failed = []
        self.start()
        turn = 1
        left = length_of_turn(turn)
        while self.empty is None:
            number = self.spread()
            if number is not None:
                if not self.ends:
                    self.conclude(number)
                else:
                    self.learn(number)
                    left -= 1
            elif left <= 0:
                turn += 1
                left = length_of_turn(turn)
                self.back_to(0)
                self.forget()
            elif not self.choose(assumed):
                self.back_to(0)
                return not self.failed
        return False

    def start(self):
        """Tells what stands alone, and puts the places in order."""
        self.order = sorted(self.weight)
        self.cursor = 0
        waiting = self.ones
        self.ones = []
        for number in waiting:
            letter = self.demands[number][0]
            if self.value[letter] < 0:
                self.conclude(number)
            elif self.value[letter] == 0:
                self.tell(letter, number)

    def choose(self, assumed):
        """Chooses one more letter, an assumed one first; False if there is none to choose, or it cannot be."""
        while len(self.ends) < len(assumed):
            letter = assumed[len(self.ends)]
            if self.value[letter] < 0:
                self.failed = self.blamed(letter)
                return False
            self.ends.append(len(self.trail))
            if self.value[letter] == 0:
                self.tell(letter, None)
                return True
        while self.cursor < self.size:
            place = self.order[self.cursor] & (SLOTS - 1)
            if self.value[2 * place] == 0:
                self.ends.append(len(self.trail))
                self.tell(2 * place + self.last[place], None)
                return True
            self.cursor += 1
        self.found = [self.value[2 * place + 1] > 0 for place in range(self.size)]
        return False

    def blamed(self, letter):
        """The assumed letters by which this one, assumed too, cannot be so, and this one."""
        found = [letter]
        asked = {letter >> 1: True}
        told = self.trail[self.ends[0]:] if self.ends else []
        for other in reversed(told):
            if other >> 1 in asked:
                number = self.reason[other >> 1]
                if number is None:
                    found.append(other)
                else:
                    asked.update({part >> 1: True for part in self.demands[number]})
        return found

    def learn(self, number):
        """Learns from a demand of which nothing is left what follows from one choice less."""
        letters, joins = self.first_cut(number)
        letters = self.shortened(letters, joins)
        below = 0
        for k in range(1, len(letters)):
            if self.level[letters[k] >> 1] > below:
                below = self.level[letters[k] >> 1]
                letters[1], letters[k] = letters[k], letters[1]
        worth = len({self.level[letter >> 1] for letter in letters})
        self.back_to(below)
        mine = self.enter(letters, self.joined(number, joins), (number, joins))
        if len(letters) > 2:
            self.learned.append((worth, len(letters), mine))
        self.tell(letters[0], mine)
        self.step += (self.step >> 3) & -SLOTS
        if self.step > MOST_STEP:
            self.rescale()
        self.order = sorted(self.weight)

    def first_cut(self, number):
        """Joins back to the one letter of the greatest depth; the letters left, it ahead, and the joins."""
        level, trail, depth = self.level, self.trail, len(self.ends)
        met = [False] * self.size
        letters = [0]
        joins = []
        many = 0
        at = len(trail)
        while True:
            for other in self.demands[number]:
                place = other >> 1
                if not met[place] and level[place] > 0:
                    met[place] = True
                    self.weight[place] -= self.step
                    if level[place] == depth:
                        many += 1
                    else:
                        letters.append(other)
            at -= 1
            while not met[trail[at] >> 1]:
                at -= 1
            many -= 1
            if many == 0:
                letters[0] = trail[at] ^ 1
                return letters, joins
            number = self.reason[trail[at] >> 1]
            joins.append((trail[at] ^ 1, number))

    def shortened(self, letters, joins):
        """The letters without those that follow from the others; what is joined for it goes to the joins."""
        kept = {letter >> 1: True for letter in letters}
        known = {}
        pending = {}
        for letter in letters[1:]:
            if self.is_spare(letter, kept, known):
                pending[letter >> 1] = True
        if not pending:
            return letters
        for place in pending:
            del kept[place]
        for letter in reversed(self.trail[self.ends[0]:]):
            if letter >> 1 in pending:
                number = self.reason[letter >> 1]
                joins.append((letter ^ 1, number))
                for other in self.demands[number]:
                    if other >> 1 not in kept and self.level[other >> 1] > 0:
                        pending[other >> 1] = True
        return [letter for letter in letters if letter >> 1 in kept]

    def is_spare(self, letter, kept, known):
        """Whether a letter that is not so is not so by the kept ones."""
        number = self.reason[letter >> 1]
        if number is None:
            return False
        for other in self.demands[number]:
            place = other >> 1
            if place != letter >> 1 and place not in kept and self.level[place] > 0:
                if place not in known:
                    known[place] = self.is_spare(other, kept, known)
                if not known[place]:
                    return False
        return True

    def joined(self, number, joins):
        """All letters that a chain leaves, as bits."""
        bits = self.full[number]
        for letter, other in joins:
            bits = joined_bits(bits, letter, self.full[other])
        return bits

    def conclude(self, number):
        """Learns the demand without letters from one of which nothing is left for good."""
        joins = []
        bits = self.full[number]
        for letter in reversed(self.trail):
            if bits >> (letter ^ 1) & 1:
                joins.append((letter ^ 1, self.reason[letter >> 1]))
                bits = joined_bits(bits, letter, self.full[self.reason[letter >> 1]])
        self.enter([], bits, (number, joins))

    def rescale(self):
        """Makes all weights small again, their sequence mostly as it was."""
        self.step = (self.step >> 56) & -SLOTS
        self.weight = [((weight >> 56) & -SLOTS) + place for place, weight in enumerate(self.weight)]

    def forget(self):
        """Drops the half of the longer learned demands, where there are many, from what is followed up."""
        if len(self.learned) > MOST_LEARNED:
            self.learned = sorted(self.learned)
            middle = len(self.learned) // 2
            gone = {number: True for worth, _, number in self.learned[middle:] if worth > 3}
            self.learned = [row for row in self.learned if row[2] not in gone]
            self.watches = [[number for number in row if number not in gone] for row in self.watches]
