"""Sayings, and objects that are none, for the tests."""

import random

PICKS = ("u", "v", "w", "x", "y", "z")

EMPTY = ((), (), ())
BARRED = ((), (), ((),))
SMALL = (
    ("x", "y"),
    (("a", ("x",)), ("b", ("y",))),
    (
        (("a", False), ("x", True)),
        (("a", True), ("b", True), ("x", False)),
        (("b", False), ("y", True)),
    ),
)
NO_PICKS = ((), (("a", ()), ("b", ())), ((("a", False), ("b", True)), (("a", True), ("b", False))))
NO_OWNS = (("x", "y"), (), ((("x", False), ("y", True)), (("x", True), ("y", True))))
NO_CLAUSES = (("x",), (("a", ()), ("b", ("x",))), ())
WITHOUT_ANSWERS = (
    ("x", "y"),
    (("a", ("y",)),),
    ((("a", False), ("x", True)), (("a", True), ("x", False))),
)
WITH_EMPTY_CLAUSE = (("x",), (("a", ("x",)),), ((), (("a", True),)))
THREE = (
    ("p", "q", "r"),
    (("ab", ("p", "q")), ("c", ()), ("zzzzzzzz", ("p", "r"))),
    (
        (("ab", False), ("c", True), ("zzzzzzzz", True)),
        (("ab", True), ("p", False), ("r", True)),
        (("c", False), ("q", True), ("zzzzzzzz", False)),
    ),
)
BETWEEN = (("m",), (("a", ("m",)), ("z", ())), ((("a", True), ("m", True), ("z", False)),))

SAYINGS = [EMPTY, BARRED, SMALL, NO_PICKS, NO_OWNS, NO_CLAUSES, WITHOUT_ANSWERS, WITH_EMPTY_CLAUSE, THREE, BETWEEN]


def nested(depth, kind):
    """A list or a tuple so many deep."""
    value = kind()
    for _ in range(depth - 1):
        value = kind([value])
    return value


def plain_strangers():
    """Objects of many kinds, made new at each call."""
    return [
        None, True, False, 0, 1, -1, 2, 10 ** 30, "", " ", "a", "x", "ab", "A", "a ", "a\n", "-", "aaaaaaaaa", b"", b"a",
        (), [], {}, set(), frozenset(), object(), int, len, range(3), iter([]), lambda value: value, Ellipsis,
        NotImplemented,
    ]


def nested_strangers():
    """Objects within one another, made new at each call."""
    twice = [1]
    return [
        [[]], [()], ([],), ((),), (((),),), ([[], [[]]], ()), [None], (None,), (1, 0), (0,), [True], (True, 0),
        ("a",), ["a"], ("a", True), (("a", 1),), (["a", True],), [("a", True)], (("a", True, True),), (("a",),),
        {"a": [1]}, {"a": True}, {"x": {"y": [()]}}, ({"a": [[]]},), [{1: (2, [3])}], {("a", True)}, frozenset([("a",)]),
        ({1, 2},), [frozenset(["x"])], [twice, twice], (twice, [twice, (twice,)]), (twice, {"a": twice}),
        ((), (), [], ()), ((), []), ([], ()), ([], [], []), ((), (), []), ((), [], ()), ([], (), ()), [(), (), ()],
        ((), ()), ((), (), (), ()), nested(100, list), nested(100, tuple), "pick x ; own a: -",
    ]


def strangers():
    """All of these."""
    return plain_strangers() + nested_strangers()


def palette():
    """What single parts are replaced by in mutants."""
    return [
        None, True, False, 0, 1, 2, "", "a", "b", "x", "y", "q", "A", "a1", "aaaaaaaa", "aaaaaaaaa", "x\n", b"a",
        (), [], {}, set(), frozenset(), ("a",), ["a"], ("x",), ("x", "y"), ("y", "x"), ("x", "x"), ("a", True),
        ["a", True], ("a", 1), ("x", ()), ("a", ("x",)), (("a", True),), ({},), object(),
    ]


def mutants(value):
    """The object with a change in one part of it, at any depth: a part replaced, dropped, doubled, moved."""
    for other in palette():
        yield other
    if type(value) not in (tuple, list):
        return
    kind = type(value)
    parts = list(value)
    yield list(value) if kind is tuple else tuple(value)
    yield as_set(parts)
    yield dict(enumerate(parts))
    yield kind(parts[::-1])
    for other in palette():
        yield kind(parts + [other])
        yield kind([other] + parts)
    for at, part in enumerate(parts):
        yield kind(parts[:at] + parts[at + 1:])
        yield kind(parts[:at] + [part] + parts[at:])
        yield kind(parts[:at] + parts[at + 1:at + 2] + [part] + parts[at + 2:])
        for other in mutants(part):
            yield kind(parts[:at] + [other] + parts[at + 1:])


def as_set(parts):
    """A set of the parts; a dict that holds them if they cannot stand in a set."""
    try:
        return set(parts)
    except TypeError:
        return {1: parts}


def random_clause(rng, picks, owns, most):
    """A clause of some of these names."""
    every = list(picks) + [own[0] for own in owns]
    chosen = rng.sample(every, rng.randint(0 if rng.random() < 0.02 else 1, min(most, len(every)))) if every else []
    return tuple(sorted((name, rng.random() < 0.5) for name in chosen))


def random_saying(rng, most_copies=9, most_clauses=8):
    """A saying with not many copies."""
    picks = tuple(sorted(rng.sample(["p", "b", "m", "x", "yy", "z"], rng.randint(0, 4))))
    owns = []
    left = most_copies
    for name in sorted(rng.sample(["a", "ab", "c", "n", "o", "w", "zz", "d"], rng.randint(0, 5))):
        sight = tuple(sorted(rng.sample(picks, rng.randint(0, min(3, len(picks))))))
        if 2 ** len(sight) <= left:
            owns.append((name, sight))
            left -= 2 ** len(sight)
    clauses = {random_clause(rng, picks, owns, 4) for _ in range(rng.randint(0, most_clauses))}
    return (picks, tuple(owns), tuple(sorted(clauses)))


def some_sayings(seed, many, most_copies=9, most_clauses=8):
    """So many sayings, the same ones for the same seed."""
    rng = random.Random(seed)
    return [random_saying(rng, most_copies, most_clauses) for _ in range(many)]


def some_answers(rng, saying):
    """Answers of a saying."""
    return tuple(tuple(rng.random() < 0.5 for _ in range(2 ** len(sight))) for _, sight in saying[1])


def clauses_over(rng, picks, owns, many, of_picks, of_owns):
    """So many clauses, all unlike, each with so many letters of picks and of owns."""
    found = set()
    while len(found) < many:
        chosen = rng.sample(picks, of_picks) + rng.sample([own[0] for own in owns], of_owns)
        found.add(tuple(sorted((name, rng.random() < 0.5) for name in chosen)))
    return tuple(sorted(found))


LARGEST_OWNS = (("a", PICKS), ("b", PICKS[:5]), ("c", PICKS[1:5]), ("d", PICKS[3:]))
EIGHT_OWNS = tuple((who, PICKS[:2] + PICKS[4:]) for who in "abcdefg") + (("h", PICKS[3:]),)


def largest_sayings():
    """Sayings with 6 picks, 40 clauses and 120 copies."""
    rng = random.Random(120)
    return [
        (PICKS, LARGEST_OWNS, clauses_over(rng, PICKS, LARGEST_OWNS, 40, 6, 4)),
        (PICKS, LARGEST_OWNS, clauses_over(rng, PICKS, LARGEST_OWNS, 40, 2, 2)),
        (PICKS, EIGHT_OWNS, clauses_over(rng, PICKS, EIGHT_OWNS, 40, 6, 8)),
        (PICKS, EIGHT_OWNS, clauses_over(rng, PICKS, EIGHT_OWNS, 40, 1, 3)),
    ]


OWNS_OF_24 = [
    (("a", ("u", "v", "w")), ("b", ("x", "y", "z")), ("c", ("u", "x", "y"))),
    (("a", ("u", "v", "w")), ("b", ("w", "x", "y")), ("c", ("u", "y", "z"))),
    (("a", ("u", "v", "w", "x")), ("b", ("x", "y", "z"))),
    (("a", ("u", "v", "w", "x")), ("b", ("y", "z")), ("c", ("x", "y"))),
    (("a", ("u", "v")), ("b", ("w", "x")), ("c", ("y", "z")), ("d", ("u", "w")), ("e", ("v", "y")), ("f", ("x", "z"))),
    (("a", ("u", "v")), ("b", ("w", "x")), ("c", ("y", "z")), ("d", ("u", "y")), ("e", ("v",)), ("f", ("x",)),
     ("g", ("z",)), ("h", ("w",))),
]


def odd_or_even(names, odd):
    """The clauses that ask for an odd, or an even, number of these names to be True."""
    found = []
    for number in range(2 ** len(names)):
        truths = [bool(number >> k & 1) for k in range(len(names))]
        if sum(truths) % 2 != odd:
            found.append(tuple(sorted((name, not one) for name, one in zip(names, truths))))
    return found


def sayings_of_24():
    """Sayings with 6 picks and 24 copies, with few and with 40 clauses, short and long ones."""
    rng = random.Random(24)
    found = [(PICKS, owns, ()) for owns in OWNS_OF_24[:1]]
    for owns in OWNS_OF_24:
        for many, of_picks, of_owns in [(2, 0, 2), (6, 1, 2), (40, 2, len(owns)), (24, 1, min(5, len(owns)))]:
            found.append((PICKS, owns, clauses_over(rng, PICKS, owns, many, of_picks, of_owns)))
    sixes, eights = OWNS_OF_24[4], OWNS_OF_24[5]
    found.append((PICKS, sixes, tuple(sorted(odd_or_even("abcdef", True)))))
    found.append((PICKS, eights, tuple(sorted(odd_or_even("cdefgh", False)))))
    found.append((PICKS, eights, (tuple((name, True) for name in "abcdefgh"),)))
    found.append((PICKS, eights, clauses_over(rng, PICKS, eights, 40, 0, 8)))
    return found


def under(clauses, cube):
    """The clauses, each asked for only where the picks have these truths."""
    return [tuple(sorted(clause + tuple((pick, not truth) for pick, truth in cube))) for clause in clauses]


def cubes_of(picks, many):
    """Cubes of plays: the one where the first so many picks are True, and others that are all the other plays."""
    ahead = [(pick, True) for pick in picks[:many]]
    return ahead, [ahead[:k] + [(picks[k], False)] for k in range(many)]


def odd_once(picks, owns, many):
    """A saying: an odd number of the owns is True where the first picks are True, elsewhere an even one."""
    names = [name for name, _ in owns]
    once, others = cubes_of(picks, many)
    clauses = under(odd_or_even(names, True), once)
    for cube in others:
        clauses += under(odd_or_even(names, False), cube)
    return picks, owns, tuple(sorted(clauses))


def all_but_one(picks, names):
    """Owns each of which sees all picks but one."""
    return tuple((name, tuple(other for other in picks if other != pick)) for name, pick in zip(names, picks))


def parity_sayings():
    """Sayings about odd and even numbers of owns: six without answers, three with some."""
    fours = (("a", PICKS[:4]), ("b", PICKS[2:]), ("c", PICKS[:2] + PICKS[4:]))
    fives = tuple((name, tuple(other for other in PICKS if other != pick)) for name, pick in zip("abc", "zyx"))
    cube = odd_once(PICKS[2:], all_but_one(PICKS[2:], "abcd"), 4)
    wider = tuple((name, ("u",) + sight) for name, sight in cube[1])
    return [
        odd_once(("x", "y"), all_but_one(("x", "y"), "ab"), 2),
        odd_once(("x", "y", "z"), all_but_one(("x", "y", "z"), "abc"), 3),
        odd_once(PICKS, fours, 6),
        odd_once(PICKS, fives, 6),
        cube,
        (PICKS, wider, cube[2]),
        odd_once(("x", "y", "z"), all_but_one(("x", "y", "z"), "abc"), 2),
        odd_once(PICKS, fours, 4),
        odd_once(PICKS, fives, 5),
    ]


def tight_saying(rng, most_copies, most_clauses):
    """A saying most of whose clauses have two or three letters of owns, so that it may have answers or not."""
    picks = PICKS[:rng.randint(1, 6)]
    owns = []
    left = most_copies
    for name in "abcdefgh":
        sight = tuple(sorted(rng.sample(picks, min(len(picks), rng.choice((0, 1, 1, 2, 2, 3))))))
        if 2 ** len(sight) <= left:
            owns.append((name, sight))
            left -= 2 ** len(sight)
    clauses = set()
    for _ in range(rng.randint(most_clauses // 3, most_clauses)):
        of_owns = min(len(owns), rng.choice((1, 2, 2, 3, 3, 3)))
        of_picks = min(len(picks), rng.choice((0, 1, 1, 2, 3)))
        clauses.update(clauses_over(rng, picks, tuple(owns), 1, of_picks, of_owns))
    return picks, tuple(owns), tuple(sorted(clauses))


def tight_sayings(seed, many, most_copies, most_clauses):
    """So many of them, the same ones for the same seed."""
    rng = random.Random(seed)
    return [tight_saying(rng, most_copies, most_clauses) for _ in range(many)]


def crowded_sayings(seed, many):
    """Sayings with nine short clauses over few names, most of which have several cores."""
    rng = random.Random(seed)
    found = []
    for _ in range(many):
        picks = PICKS[:3]
        owns = tuple((name, tuple(sorted(rng.sample(picks, rng.choice((0, 0, 1, 1, 2)))))) for name in "abcd")
        clauses = set()
        while len(clauses) < 9:
            kind = rng.choice([(0, 1), (0, 2), (0, 2), (0, 3), (1, 1), (1, 2)])
            clauses.update(clauses_over(rng, picks, owns, 1, *kind))
        found.append((picks, owns, tuple(sorted(clauses))))
    return found


def owns_of_120(rng):
    """Owns with 120 copies, or nearly as many."""
    lengths = rng.choice([(4, 4, 4, 4, 4, 4, 4, 3), (5, 5, 5, 4, 3), (5, 4, 4, 4, 4, 3, 3, 2), (6, 4, 3, 3, 3, 3, 2, 2)])
    return tuple((name, tuple(sorted(rng.sample(PICKS, length)))) for name, length in zip("abcdefgh", lengths))


def great_sayings(seed, many):
    """Sayings with 40 clauses, most of them of two and three letters, and about 120 copies."""
    rng = random.Random(seed)
    found = []
    for _ in range(many):
        owns = owns_of_120(rng)
        kinds = rng.choice([[(0, 3)], [(1, 3)], [(2, 3)], [(0, 3), (1, 2)], [(1, 2)], [(2, 2)], [(0, 4), (1, 3)]])
        clauses = set()
        while len(clauses) < 40:
            clauses.update(clauses_over(rng, PICKS, owns, 1, *rng.choice(kinds)))
        found.append((PICKS, owns, tuple(sorted(clauses))))
    return found
