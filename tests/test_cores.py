"""Point 14: is_core, core, least_core, needed_clauses, largest_kept; fact K1."""

import itertools

from onlyseen.cores import core, is_core, largest_kept, least_core, needed_clauses
from onlyseen.errors import Holds, InvalidNumber
from onlyseen.refutations import used
from onlyseen.settling import settle
from tests import oracle
from tests.guard import Guarded, inner_parts
from tests.samples import (
    BARRED, EMPTY, NO_CLAUSES, NO_OWNS, SAYINGS, SMALL, WITH_EMPTY_CLAUSE, WITHOUT_ANSWERS, crowded_sayings,
    parity_sayings, some_sayings, strangers, tight_sayings,
)

F, T = False, True

# Of the document, point 14.
THREE_CLAUSES = (("x",), (("a", ()),), ((("a", F), ("x", T)), (("a", T), ("x", F)), (("a", T), ("x", T))))
# Three pairs of clauses that bar each other, and one that bars nothing.
PAIRS = ((), tuple((name, ()) for name in "abcd"), tuple(sorted(
    [((name, truth),) for name in "abc" for truth in (F, T)] + [(("a", T), ("d", T))])))


def lots(saying):
    """Of each lot of clauses, as an ascending tuple of indexes, whether it has answers, by going through all."""
    rows = [oracle.Truths(saying[:2] + ((clause,),)).chunks[0] for clause in saying[2]]
    every = oracle.Truths(saying[:2] + ((),)).chunks[0]
    found = {}
    for many in range(len(rows) + 1):
        for chosen in itertools.combinations(range(len(rows)), many):
            left = every
            for index in chosen:
                left &= rows[index]
            found[chosen] = left > 0
    return found


def small_sayings():
    few = tight_sayings(140, 160, 12, 9) + crowded_sayings(142, 80)
    return SAYINGS + some_sayings(141, 60, 9, 7) + few + parity_sayings()[:1] + [THREE_CLAUSES, PAIRS]


class Cores(Guarded):

    def test_all_lots_of_clauses(self):
        met = set()
        for saying in small_sayings():
            found = lots(saying)
            every = tuple(range(len(saying[2])))
            cores = [chosen for chosen in found if not found[chosen]]
            for chosen in list(found)[::max(1, len(found) // 50)]:
                self.assertIs(is_core(saying, chosen), not found[chosen])
            self.check_kept(saying, found)
            needed = tuple(index for index in every if all(index in chosen for chosen in cores))
            self.assert_same(needed_clauses(saying), needed)
            # K1: a clause is in every core exactly if the others have answers.
            self.assert_same(needed, tuple(index for index in every if found[every[:index] + every[index + 1:]]))
            if cores:
                self.assert_same(least_core(saying), min(cores, key=lambda chosen: (len(chosen), chosen)))
                self.check_core(saying, found)
                met.add(("without", len(min(cores, key=len)), len(needed)))
            else:
                self.assert_same(needed, every)
                for function in (core, least_core):
                    self.assert_refused(Holds, saying, lambda: function(saying))
                met.add("with")
        self.assertGreater(len(met), 10)

    def check_kept(self, saying, found):
        kept = [one for one in found if found[one] and not any(set(one) < set(other) for other in found if found[other])]
        told = largest_kept(saying)
        self.assert_same(told, sorted(kept))
        self.assertEqual(len([part for part in inner_parts(told) if type(part) is list]), 1)

    def check_core(self, saying, found):
        told = core(saying)
        self.assertIn(told, found)
        self.assertIs(found[told], F)
        for index in told:
            self.assertIs(found[tuple(other for other in told if other != index)], T)

    def test_what_a_refutation_uses_is_a_core(self):
        for saying in small_sayings() + parity_sayings()[1:5]:
            kind, told = settle(saying)
            if kind == "refutation":
                self.assertIs(is_core(saying, used(saying, told)), T)

    def test_the_edges(self):
        for saying in (EMPTY, NO_CLAUSES):
            self.assert_same([is_core(saying, ()), needed_clauses(saying), largest_kept(saying)], [F, (), [()]])
        self.assert_same([is_core(BARRED, ()), is_core(BARRED, (0,)), core(BARRED), least_core(BARRED)], [F, T, (0,), (0,)])
        self.assert_same([needed_clauses(BARRED), largest_kept(BARRED)], [(0,), [()]])
        self.assert_same([core(WITH_EMPTY_CLAUSE), least_core(WITH_EMPTY_CLAUSE)], [(0,), (0,)])
        self.assert_same([needed_clauses(WITH_EMPTY_CLAUSE), largest_kept(WITH_EMPTY_CLAUSE)], [(0,), [(1,)]])
        self.assert_same([least_core(NO_OWNS), needed_clauses(NO_OWNS), largest_kept(NO_OWNS)], [(0,), (), [()]])
        self.assert_same([needed_clauses(SMALL), largest_kept(SMALL)], [(0, 1, 2), [(0, 1, 2)]])
        self.assert_same([core(WITHOUT_ANSWERS), needed_clauses(WITHOUT_ANSWERS)], [(0, 1), (0, 1)])
        self.assert_same(largest_kept(WITHOUT_ANSWERS), [(0,), (1,)])

    def test_several_cores(self):
        self.assert_same([is_core(PAIRS, (0, 1)), is_core(PAIRS, (1, 2))], [T, F])
        self.assert_same([least_core(PAIRS), needed_clauses(PAIRS)], [(0, 1), ()])
        self.assert_same(len(largest_kept(PAIRS)), 8)
        self.assert_same([least_core(THREE_CLAUSES), needed_clauses(THREE_CLAUSES)], [(0, 1), (0,)])
        self.assertIn(core(THREE_CLAUSES), [(0, 1), (0, 2)])

    def test_many_largest_ones(self):
        names = tuple((name, ()) for name in "abcdef")
        saying = ((), names, tuple(((name, truth),) for name, _ in names for truth in (F, T)))
        wanted = sorted(itertools.product(*[(2 * k, 2 * k + 1) for k in range(6)]))
        self.assert_same(largest_kept(saying), wanted)
        self.assert_same([least_core(saying), needed_clauses(saying)], [(0, 1), ()])
        # All clauses of three letters over three owns, and of two over two: together alone they have no answers.
        saying = ((), tuple((name, ()) for name in "abcde"), tuple(sorted(
            [tuple(zip("abc", truths)) for truths in itertools.product([F, T], repeat=3)]
            + [tuple(zip("de", truths)) for truths in itertools.product([F, T], repeat=2)])))
        fours = tuple(index for index, clause in enumerate(saying[2]) if len(clause) == 2)
        self.assert_same([least_core(saying), needed_clauses(saying)], [fours, ()])
        self.assert_same(len(largest_kept(saying)), 32)

    def test_one_core_of_all_clauses(self):
        clauses = tuple(itertools.product([F, T], repeat=3))
        saying = ((), tuple((name, ()) for name in "abc"), tuple(tuple(zip("abc", truths)) for truths in clauses))
        self.assert_same([core(saying), least_core(saying), needed_clauses(saying)], [tuple(range(8))] * 3)
        self.assert_same(largest_kept(saying), sorted(tuple(set(range(8)) - {index}) for index in range(8)))
        saying = parity_sayings()[1]
        self.assertIs(is_core(saying, tuple(range(16))), T)
        for index in range(16):
            others = tuple(other for other in range(16) if other != index)
            self.assertIs(is_core(saying, others), index not in needed_clauses(saying))


class Indexes(Guarded):

    def test_objects_that_are_no_indexes(self):
        for wrong in strangers() + [(-1,), (3,), (0, 3), (0, 0), (1, 0), (0, 2, 1), (-1, 0), (10 ** 30,), (T,), (F, T),
                                    (F,), (0, T), [0, 1], [], [0], 0, "0", ("0",), (None,), (0, None), ((0,),), ([0],),
                                    {0: 1}, {0}, range(2), (0, 1, 2, 3), ((), 0), ("a", 0), (0, "a"), ({},), (0, [[1]])]:
            if repr(wrong) not in [repr(chosen) for chosen in lots(THREE_CLAUSES)]:
                self.assert_refused(InvalidNumber, wrong, lambda: is_core(THREE_CLAUSES, wrong))
                self.assert_refused(InvalidNumber, wrong, lambda: is_core(indexes=wrong, saying=THREE_CLAUSES))
        for saying in (EMPTY, NO_CLAUSES):
            self.assert_refused(InvalidNumber, (0,), lambda: is_core(saying, (0,)))
        self.assert_refused(InvalidNumber, (-1,), lambda: is_core(BARRED, (-1,)))

    def test_indexes_that_are_right(self):
        for chosen in lots(THREE_CLAUSES):
            self.assertIn(is_core(THREE_CLAUSES, chosen), (F, T))
        saying = parity_sayings()[4]
        self.assertIs(is_core(saying, tuple(range(40))), T)
        self.assertIs(is_core(saying, tuple(range(1, 40))), F)
        self.assert_refused(InvalidNumber, (39, 40), lambda: is_core(saying, (39, 40)))
