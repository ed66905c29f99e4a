"""Points 32 to 35 read a second time, as plainly as can be: what the tests compare with.

Nothing of the package is imported here.
"""

import itertools

from tests import oracle

F, T = False, True


def told(of):
    """The sets of marked letters that the clauses tell at the plays."""
    every = {oracle.letters_at(of, which, at) for at in oracle.plays(of) for which in of[2]}
    return {frozenset(marked) for marked in every - {None}}


def of_owns(of, clause):
    return [one for one in clause if one[0] not in of[0]]


def plain(of):
    return all(sum(one[1] for one in of_owns(of, clause)) < 2 for clause in of[2])


def twos(of):
    return all(len(of_owns(of, clause)) in (1, 2) for clause in of[2])


def least(those):
    """Of answers those whose True are True in all of them; None if none are."""
    for by in those:
        if all(one <= other for more in those for part, others in zip(by, more) for one, other in zip(part, others)):
            return by
    return None


def marked_letter(of, value):
    """Whether an object is a marked letter of the copies of a saying."""
    if type(value) is not tuple or len(value) != 3 or not oracle.truth(value[2]):
        return False
    return repr(value[:2]) in [repr(copy) for copy in oracle.copies(of)]


def chain_holds(of, value, start):
    if type(value) is not tuple or len(value) < 2 or not all(marked_letter(of, one) for one in value):
        return False
    if value[0][:2] != value[-1][:2] or value[0][2] is not start or value[-1][2] is start:
        return False
    every = told(of)
    for (name, what, truth), other in zip(value, value[1:]):
        if frozenset([(name, what, not truth), other]) not in every and frozenset([other]) not in every:
            return False
    return True


def chains_hold(of, value):
    if type(value) is not tuple or len(value) != 2:
        return False
    if not chain_holds(of, value[0], T) or not chain_holds(of, value[1], F):
        return False
    return value[0][0][:2] == value[1][0][:2]


# Rows of sums.

def sums(value):
    if type(value) is not tuple or len(value) != 3 or not oracle.saying(value[:2] + ((),)):
        return False
    every = set(value[0]) | {own[0] for own in value[1]}
    if type(value[2]) is not tuple or len(value[2]) > 40:
        return False
    for part in value[2]:
        if type(part) is not tuple or len(part) != 2 or not oracle.names(part[0]) or not set(part[0]) <= every:
            return False
        if not oracle.truth(part[1]):
            return False
    return oracle.ascending(value[2])


def sums_hold(row, by):
    of = row[:2] + ((),)
    for at in oracle.plays(of):
        values = dict(zip(row[0], at))
        values.update({who: oracle.value_of(of, by, who, at) for who, _ in row[1]})
        if any(sum(values[name] for name in names) % 2 != truth for names, truth in row[2]):
            return False
    return True


def sums_paper(row, value):
    if type(value) is not tuple or len(value) != 2 or type(value[1]) is not tuple:
        return False
    pick, indexes = value
    if not all(type(index) is int and 0 <= index < len(row[2]) for index in indexes) or not oracle.ascending(indexes):
        return False
    if pick is not None and (type(pick) is not str or pick not in row[0]):
        return False
    chosen = [row[2][index] for index in indexes]
    for name, sight in row[1]:
        if (pick is None or pick in sight) and sum(name in names for names, _ in chosen) % 2:
            return False
    return sum(truth if pick is None else pick in names for names, truth in chosen) % 2 == 1


def papers(row):
    """All papers of a row of sums, by going through all."""
    every = [chosen for many in range(len(row[2]) + 1) for chosen in itertools.combinations(range(len(row[2])), many)]
    return [(pick, chosen) for pick in (None,) + row[0] for chosen in every if sums_paper(row, (pick, chosen))]


# Nets.

def net(value):
    if type(value) is not tuple or len(value) != 3 or not all(type(part) is tuple for part in value):
        return False
    inputs, gates, outs = value
    if not oracle.names(inputs) or len(inputs) > 3 or len(gates) > 12:
        return False
    ahead = list(inputs)
    for gate in gates:
        if type(gate) is not tuple or len(gate) != 3 or not oracle.name(gate[0]) or gate[0] in ahead:
            return False
        if type(gate[1]) is not str or type(gate[2]) is not tuple or not all(oracle.name(one) for one in gate[2]):
            return False
        if gate[1] == "blank":
            if not set(gate[2]) <= set(inputs) or not oracle.ascending(gate[2]):
                return False
        elif gate[1] not in ("both", "either", "unlike", "not") or not set(gate[2]) <= set(ahead):
            return False
        elif len(gate[2]) != (1 if gate[1] == "not" else 2):
            return False
        ahead.append(gate[0])
    if len(blanks(value)) > 2:
        return False
    return len(outs) > 0 and all(oracle.name(one) and one in ahead for one in outs)


def blanks(value):
    return [gate for gate in value[1] if gate[1] == "blank"]


def goal(of, value):
    return net(value) and not blanks(value) and len(value[0]) == len(of[0]) and len(value[2]) == len(of[2])


def tables(of, value):
    if type(value) is not tuple or len(value) != len(blanks(of)):
        return False
    return all(oracle.table(part, 2 ** len(gate[2])) for part, gate in zip(value, blanks(of)))


def inputs_at(of, value):
    return type(value) is tuple and len(value) == len(of[0]) and all(oracle.truth(part) for part in value)


def outs(of, by, at):
    values = dict(zip(of[0], at))
    left = list(by)
    for name, kind, parts in of[1]:
        truths = [values[part] for part in parts]
        if kind == "blank":
            values[name] = left.pop(0)[oracle.place_in_table(truths)]
        elif kind == "not":
            values[name] = not truths[0]
        else:
            values[name] = {"both": sum(truths) == 2, "either": sum(truths) > 0, "unlike": sum(truths) == 1}[kind]
    return tuple(values[name] for name in of[2])


def every_tables(of):
    each = [list(itertools.product([F, T], repeat=2 ** len(gate[2]))) for gate in blanks(of)]
    return list(itertools.product(*each))


def fills(of, wanted):
    """All tables with which the outs are those of the goal, by going through all."""
    plays = list(itertools.product([F, T], repeat=len(of[0])))
    right = [outs(wanted, (), at) for at in plays]
    return [by for by in every_tables(of) if [outs(of, by, at) for at in plays] == right]


def net_saying(of, wanted):
    clauses = set()
    names = [gate[0] for gate in blanks(of)]
    for at in itertools.product([F, T], repeat=len(of[0])):
        for chosen in itertools.product([F, T], repeat=len(names)):
            by = tuple((truth,) * 2 ** len(gate[2]) for truth, gate in zip(chosen, blanks(of)))
            if outs(of, by, at) != outs(wanted, (), at):
                clauses.add(tuple(sorted((name, not truth) for name, truth in zip(of[0] + tuple(names), at + chosen))))
    return (of[0], tuple(sorted((gate[0], gate[2]) for gate in blanks(of))), tuple(sorted(clauses)))


# Middles.

def marked(of, value):
    """Whether an object is a marked saying of the copies of a saying."""
    every = {repr(copy) for copy in oracle.copies(of)}

    def right(part):
        if type(part) is not tuple or not part or type(part[0]) is not str:
            return False
        if part[0] in ("true", "false"):
            return len(part) == 1
        if part[0] == "letter":
            return len(part) == 4 and oracle.truth(part[3]) and repr(part[1:3]) in every
        return part[0] in ("both", "either") and len(part) == 3 and right(part[1]) and right(part[2])

    return right(value)


def letters(value):
    """The copies of the letters of a marked saying."""
    if value[0] == "letter":
        return {value[1:3]}
    return set().union(*(letters(part) for part in value[1:] if type(part) is tuple))


def is_so(of, value, by):
    if value[0] == "letter":
        at = oracle.place_in_table(value[2])
        return by[[own[0] for own in of[1]].index(value[1])][at] is value[3]
    if value[0] in ("both", "either"):
        return (all if value[0] == "both" else any)([is_so(of, part, by) for part in value[1:]])
    return value == ("true",)


def rows_so(of, value):
    """The rows by which a marked saying is so, as bits, of at most 16 copies."""
    every = oracle.copies(of)
    full = (1 << (1 << len(every))) - 1
    if value[0] == "letter":
        bits = oracle.rows_with(len(every), every.index(value[1:3]))
        return bits if value[3] else full ^ bits
    if value[0] == "both":
        return rows_so(of, value[1]) & rows_so(of, value[2])
    if value[0] == "either":
        return rows_so(of, value[1]) | rows_so(of, value[2])
    return full if value == ("true",) else 0


def halves(of, first):
    one = tuple(of[2][index] for index in first)
    return of[:2] + (one,), of[:2] + (tuple(clause for clause in of[2] if clause not in one),)


def shared(of, first):
    """The copies that both halves tell."""
    one, other = [{mark[:2] for marks in told(half) for mark in marks} for half in halves(of, first)]
    return one & other


def rows_of(of):
    """The rows by which a saying of at most 16 copies holds, as bits."""
    return oracle.Truths(of).chunks[0]


def middle(of, first, value):
    """Whether an object is a middle, by going through all answers; of at most 16 copies."""
    if not marked(of, value) or not letters(value) <= shared(of, first):
        return False
    one, other = [rows_of(half) for half in halves(of, first)]
    rows = rows_so(of, value)
    return one & ~rows == 0 and other & rows == 0


def size(value):
    """How many tuples stand in an object, itself too, each time that they stand there."""
    return 1 + sum(size(part) for part in value if type(part) is tuple)


def depth(value):
    """How many tuples stand within one another."""
    return 1 + max([depth(part) for part in value if type(part) is tuple], default=0)


# Cuts.

def without(of, clause, name):
    """The clauses when the letter of a name goes out of one of them."""
    less = tuple(one for one in clause if one[0] != name)
    return tuple(sorted((set(of[2]) - {clause}) | {less}))


def cuts(of):
    sights = dict(of[1])
    found = []
    for clause in of[2]:
        here = [sights[name] for name, _ in clause if name in sights]
        found += [("reduce", clause, name) for name, _ in clause
                  if name in of[0] and not any(name in sight for sight in here)]
        if any(set(other) < set(clause) for other in of[2]):
            found.append(("swallow", clause))
    for name in sights:
        for truth in (F, T):
            if not any((name, not truth) in clause for clause in of[2]):
                found.append(("pure", name, truth))
    return sorted(found)


def after(of, cut):
    if cut[0] == "reduce":
        return of[:2] + (without(of, cut[1], cut[2]),)
    if cut[0] == "swallow":
        return of[:2] + (tuple(clause for clause in of[2] if clause != cut[1]),)
    return (of[0], tuple(own for own in of[1] if own[0] != cut[1]),
            tuple(clause for clause in of[2] if cut[1] not in dict(clause)))


def shorter(of):
    done = []
    while cuts(of):
        done.append(cuts(of)[0])
        of = after(of, done[-1])
    return of, done
