"""Plain sayings, twos, rows of sums, nets and marked sayings, for the tests."""

import random

from tests.samples import PICKS

F, T = False, True


def some_owns(rng, picks, most_copies, most_owns=6):
    """Owns with not more copies than these."""
    owns = []
    left = most_copies
    for name in "abcdefgh"[:most_owns]:
        sight = tuple(sorted(rng.sample(picks, min(len(picks), rng.choice((0, 1, 1, 2, 2, 3))))))
        if 2 ** len(sight) <= left:
            owns.append((name, sight))
            left -= 2 ** len(sight)
    return tuple(owns)


def clause_of(rng, picks, owns, trues, of_owns, of_picks):
    """A clause with so many letters of owns, so many of them True, and some of picks."""
    chosen = rng.sample([name for name, _ in owns], of_owns)
    letters = [(name, k < trues) for k, name in enumerate(chosen)]
    letters += [(pick, rng.random() < 0.5) for pick in rng.sample(picks, of_picks)]
    return tuple(sorted(letters))


def plain_saying(rng, most_copies, most_clauses):
    """A plain saying."""
    picks = PICKS[:rng.randint(0, 4)]
    owns = some_owns(rng, picks, most_copies)
    clauses = set()
    for _ in range(rng.randint(0, most_clauses)):
        of_owns = min(len(owns), rng.choice((1, 1, 2, 2, 3)))
        trues = min(of_owns, rng.choice((0, 1, 1, 1)))
        clauses.add(clause_of(rng, picks, owns, trues, of_owns, min(len(picks), rng.choice((0, 1, 1, 2)))))
    return picks, owns, tuple(sorted(clauses))


def twos_saying(rng, most_copies, most_clauses):
    """Twos."""
    picks = PICKS[:rng.randint(0, 4)]
    owns = some_owns(rng, picks, most_copies)
    clauses = set()
    for _ in range(rng.randint(0, most_clauses) if owns else 0):
        of_owns = min(len(owns), rng.choice((1, 2, 2, 2)))
        trues = rng.randint(0, of_owns)
        clauses.add(clause_of(rng, picks, owns, trues, of_owns, min(len(picks), rng.choice((0, 0, 1, 2)))))
    return picks, owns, tuple(sorted(clauses))


def row_of_sums(rng, picks, owns, most_sums):
    """A row of sums over these."""
    every = list(picks) + [own[0] for own in owns]
    found = set()
    for _ in range(rng.randint(0, most_sums)):
        names = rng.sample(every, rng.randint(0, min(4, len(every))))
        found.add((tuple(sorted(names)), rng.random() < 0.5))
    return picks, owns, tuple(sorted(found))


def some_sums(seed, many, most_copies=9, most_sums=5):
    """So many rows of sums, the same ones for the same seed."""
    rng = random.Random(seed)
    found = []
    for _ in range(many):
        picks = PICKS[:rng.randint(0, 4)]
        found.append(row_of_sums(rng, picks, some_owns(rng, picks, most_copies), most_sums))
    return found


def planted_sums(seed, many, sums):
    """Rows of so many sums, each sum so by answers that are drawn; with one sum turned round in every other row."""
    rng = random.Random(seed)
    found = []
    for number in range(many):
        owns = tuple((name, tuple(sorted(rng.sample(PICKS, length)))) for name, length in
                     zip("abcdefgh", rng.choice([(4, 4, 4, 4, 4, 4, 4, 3), (5, 5, 5, 4, 3), (6, 5, 4, 2, 2)])))
        planted = {name: [None] * (rng.random() < 0.5) + [pick for pick in sight if rng.random() < 0.5]
                   for name, sight in owns}
        rows = set()
        # The owns of a sum tell its picks and its truth: of five owns there are not so many.
        while len(rows) < (sums if len(owns) == 8 else 25):
            chosen = rng.sample([name for name, _ in owns], rng.randint(1, 4))
            parts = [part for name in chosen for part in planted[name]]
            names = chosen + [pick for pick in PICKS if parts.count(pick) % 2]
            rows.add((tuple(sorted(names)), parts.count(None) % 2 == 1))
        rows = sorted(rows)
        if number % 2:
            at = rng.randrange(len(rows))
            rows[at] = (rows[at][0], not rows[at][1])
        found.append((PICKS, owns, tuple(sorted(set(rows)))))
    return found


NAMES = ("n", "c", "k", "aa", "q", "d", "z", "g", "h", "bb", "o", "e")


def some_net(rng, many_inputs, gates, blanks, outs):
    """A net with these numbers; its blanks stand anywhere and see some inputs."""
    inputs = ("j", "m", "x")[:many_inputs]
    ahead = list(inputs)
    places = rng.sample(range(gates), min(blanks, gates))
    found = []
    for at, name in enumerate(rng.sample(NAMES, gates)):
        if at in places or not ahead:
            sight = tuple(sorted(rng.sample(inputs, rng.randint(0, many_inputs))))
            if len([gate for gate in found if gate[1] == "blank"]) == 2:
                break
            found.append((name, "blank", sight))
        else:
            kind = rng.choice(("both", "either", "unlike", "not"))
            # Mostly of what stands shortly ahead, so that blanks matter.
            near = ahead[-4:] if rng.random() < 0.7 else ahead
            found.append((name, kind, tuple(rng.choice(near) for _ in range(1 if kind == "not" else 2))))
        ahead.append(name)
    return inputs, tuple(found), tuple(rng.choice(ahead[-3:]) for _ in range(outs))


def some_marked(rng, copies, depth):
    """A marked saying of these copies, not deeper than this."""
    if depth == 0 or rng.random() < 0.15:
        if not copies or rng.random() < 0.1:
            return (rng.choice(("true", "false")),)
        return ("letter",) + rng.choice(copies) + (rng.random() < 0.5,)
    kind = rng.choice(("both", "either"))
    return (kind, some_marked(rng, copies, depth - 1), some_marked(rng, copies, depth - 1))


def goal_for(rng, net):
    """A goal that some tables of a net reach: each blank of an input or more is some gate of these, renamed."""
    renamed = dict(zip(net[0], ("p", "r", "y")))
    gates = []
    for at, (name, kind, parts) in enumerate(net[1]):
        of = tuple(renamed[part] for part in parts)
        if kind == "blank" and not of:
            kind, of = "unlike", ("p", "p")
        elif kind == "blank":
            kind = rng.choice(("both", "either", "unlike", "not"))
            of = (rng.choice(of),) if kind == "not" else (rng.choice(of), rng.choice(of))
        renamed[name] = "g" + "abcdefghijkl"[at]
        gates.append((renamed[name], kind, of))
    return ("p", "r", "y")[:len(net[0])], tuple(gates), tuple(renamed[name] for name in net[2])
