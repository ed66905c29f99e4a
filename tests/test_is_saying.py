"""Points 4, 5 and 10: what is a saying, a clause, a play, answers, of any objects."""

import itertools
import random

from onlyseen.sayings import is_answers, is_clause, is_play, is_saying
from tests import oracle
from tests.guard import Guarded
from tests.samples import (
    BETWEEN, EMPTY, NO_CLAUSES, NO_OWNS, NO_PICKS, PICKS, SAYINGS, SMALL, THREE, largest_sayings, mutants, palette,
    sayings_of_24, some_answers, some_sayings, strangers,
)


def with_name(name):
    """Sayings in which one name is this one."""
    return [((name,), (), ()), ((), ((name, ()),), ()), ((name,), (("a", (name,)),), (((name, True),),))]


def with_clauses(*clauses):
    return (("x", "y"), (("a", ("x",)), ("b", ("y",))), clauses)


class IsSaying(Guarded):

    def test_sayings(self):
        for saying in SAYINGS + sayings_of_24() + largest_sayings() + some_sayings(1, 200):
            self.assertIs(is_saying(saying), True, saying)
            self.assertIs(is_saying(value=saying), True)

    def test_objects_of_all_kinds_are_none(self):
        for value in strangers():
            self.assertIs(is_saying(value), False, value)
            self.assertIs(is_saying(value=value), False)

    def test_each_part_of_a_saying_may_be_any_object(self):
        for saying in (SMALL, EMPTY, NO_OWNS, BETWEEN):
            for at in range(3):
                for value in strangers():
                    changed = saying[:at] + (value,) + saying[at + 1:]
                    self.assertIs(is_saying(changed), oracle.saying(changed), changed)

    def test_several_parts_may_be_any_objects_at_once(self):
        for parts in itertools.product(palette(), repeat=3):
            self.assertIs(is_saying(parts), oracle.saying(parts), parts)

    def test_one_change_at_any_depth(self):
        met = {True: 0, False: 0}
        for saying in (SMALL, THREE, NO_PICKS, BETWEEN):
            for changed in mutants(saying):
                wanted = oracle.saying(changed)
                self.assertIs(is_saying(changed), wanted, changed)
                met[wanted] += 1
        self.assertGreater(met[True], 20)
        self.assertGreater(met[False], 2000)

    def test_a_name_has_one_to_eight_small_letters(self):
        for name in ["c", "z", "cz", "abcdefgh", "zzzzzzzz", "az", "true", "pick", "own"]:
            for saying in with_name(name):
                self.assertIs(is_saying(saying), True, saying)
        wrong = ["", "abcdefghi", "zzzzzzzzz", "A", "aZ", "a1", "1", "a_", "_", "a-", "-", "a b", " a", "a ", "a\n", "\n",
                 "{", "`", "a{", "a`", "~", ".", "@", "[", b"c", 1, None, True, ("c",), ["c"]]
        for name in wrong:
            for saying in with_name(name):
                self.assertIs(is_saying(saying), False, saying)

    def test_picks_ascend(self):
        for picks, wanted in [(("x", "y"), True), (("y", "x"), False), (("x", "x"), False), (("a", "ab", "b"), True),
                              (("a", "b", "ab"), False), (("x", "z", "y"), False), (["x", "y"], False)]:
            self.assertIs(is_saying((picks, (), ())), wanted, picks)

    def test_at_most_six_picks(self):
        names = ("p", "q", "r", "s", "t", "u", "v", "w")
        for many in range(9):
            self.assertIs(is_saying((names[:many], (), ())), many <= 6, many)

    def test_owns_ascend_by_names(self):
        for names, wanted in [(("a", "b"), True), (("b", "a"), False), (("a", "a"), False), (("a", "ab", "b"), True),
                              (("ab", "a"), False)]:
            self.assertIs(is_saying(((), tuple((name, ()) for name in names), ())), wanted, names)
        self.assertIs(is_saying((("x",), (("a", ()), ("a", ("x",))), ())), False)
        self.assertIs(is_saying((("x",), (("a", ("x",)), ("b", ())), ())), True)

    def test_at_most_eight_owns(self):
        for many in range(11):
            owns = tuple((name, ()) for name in "abcdefghij"[:many])
            self.assertIs(is_saying((("x",), owns, ())), many <= 8, many)

    def test_sights_ascend_and_are_of_picks(self):
        for sight, wanted in [((), True), (("x",), True), (("x", "y"), True), (("y", "x"), False), (("x", "x"), False),
                              (("z",), False), (("a",), False), (("b",), False), (("x", "y", "z"), False),
                              (["x"], False), ("x", False), (None, False), ((1,), False), ((["x"],), False)]:
            self.assertIs(is_saying((("x", "y"), (("a", sight), ("b", ())), ())), wanted, sight)

    def test_no_name_is_a_pick_and_an_own(self):
        self.assertIs(is_saying((("a", "x"), (("a", ()),), ())), False)
        self.assertIs(is_saying((("a", "x"), (("x", ("x",)),), ())), False)
        self.assertIs(is_saying((("a", "x"), (("b", ("a",)),), ())), True)

    def test_at_most_a_hundred_and_twenty_copies(self):
        def of(sizes):
            return (PICKS, tuple((name, PICKS[:size]) for name, size in zip("abcdefgh", sizes)), ())
        for sizes in [(6, 5, 4, 3), (4, 4, 4, 4, 4, 4, 4, 3), (6, 5, 4, 2, 2), (6, 4, 4, 4, 3), (5, 5, 5, 4, 3), (6, 5),
                      (6, 5, 4, 2, 1, 1), (3, 4, 5, 6)]:
            self.assertLessEqual(sum(2 ** size for size in sizes), 120)
            self.assertIs(is_saying(of(sizes)), True, sizes)
        for sizes in [(6, 5, 4, 3, 0), (0, 6, 5, 4, 3), (6, 6), (4,) * 8, (5, 5, 5, 4, 3, 0), (6, 5, 5), (5, 5, 5, 5),
                      (6,) * 8, (6, 5, 4, 3, 1)]:
            self.assertGreater(sum(2 ** size for size in sizes), 120)
            self.assertIs(is_saying(of(sizes)), False, sizes)

    def test_a_clause_ascends_and_has_no_name_twice(self):
        for clause, wanted in [((), True), ((("a", True),), True), ((("a", False), ("b", True)), True),
                               ((("b", True), ("a", True)), False), ((("a", True), ("a", True)), False),
                               ((("a", False), ("a", True)), False), ((("a", True), ("a", False)), False),
                               ((("a", True), ("x", False), ("y", True)), True), ((("c", True),), False),
                               ((("a", 1),), False), ((("a", 0),), False), ((("a", None),), False),
                               ((["a", True],), False), ([("a", True)], False), (("a", True), False),
                               ((("a", True, True),), False), ((("a",),), False), ((("", True),), False),
                               ((("a", False), ("b", True), ("x", False), ("y", False)), True)]:
            self.assertIs(is_saying(with_clauses(clause)), wanted, clause)
            self.assertIs(is_clause(SMALL, clause), wanted, clause)

    def test_clauses_ascend(self):
        one, other, third = (("a", False),), (("a", False), ("b", True)), (("a", True),)
        for clauses, wanted in [((one, other, third), True), ((other, one), False), ((one, one), False),
                                (((), one), True), ((one, ()), False), (((), ()), False), ((third, one), False),
                                ((one, third, other), False), (((),), True), ((), True)]:
            self.assertIs(is_saying(with_clauses(*clauses)), wanted, clauses)
        self.assertIs(is_saying((("x",), (), [one])), False)

    def test_at_most_forty_clauses(self):
        names = "abcdef"
        every = sorted(tuple(zip(names, truths)) for truths in itertools.product([False, True], repeat=6))
        owns = tuple((name, ()) for name in names)
        for many in (0, 1, 39, 40, 41, 42, 64):
            self.assertIs(is_saying(((), owns, tuple(every[:many]))), many <= 40, many)
            self.assertIs(is_saying((tuple(names), (), tuple(every[:many]))), many <= 40, many)
            self.assertIs(is_saying(((), owns, ((),) + tuple(every[:many]))), many <= 39, many)

    def test_clauses_are_of_the_names_of_the_saying(self):
        self.assertIs(is_saying((("x",), (("a", ()),), ((("a", True), ("x", True)),))), True)
        self.assertIs(is_saying((("x",), (("a", ()),), ((("a", True), ("y", True)),))), False)
        self.assertIs(is_saying((("x",), (("a", ()),), ((("b", True),),))), False)
        self.assertIs(is_saying(((), (), ((("a", True),),))), False)


class IsClause(Guarded):

    def test_clauses_of_the_saying_and_others_of_its_names(self):
        for saying in SAYINGS + largest_sayings():
            self.assertIs(is_clause(saying, ()), True)
            for clause in saying[2]:
                self.assertIs(is_clause(saying, clause), True)
                self.assertIs(is_clause(saying=saying, value=clause[::2]), True)
        self.assertIs(is_clause(SMALL, (("a", True), ("b", False), ("x", False), ("y", False))), True)
        self.assertIs(is_clause(NO_CLAUSES, (("x", False),)), True)

    def test_one_change_at_any_depth_and_objects_of_all_kinds(self):
        for saying in (SMALL, NO_PICKS, NO_OWNS, EMPTY, BETWEEN):
            values = strangers() + palette()
            for clause in ((("a", False), ("x", True)), (("a", True), ("b", False), ("x", False), ("y", False))):
                values += list(mutants(clause))
            for value in values:
                self.assertIs(is_clause(saying, value), oracle.clause(saying, value), value)
                self.assertIs(is_clause(value=value, saying=saying), oracle.clause(saying, value), value)


class IsPlay(Guarded):

    def test_plays_and_objects_of_all_kinds(self):
        for saying in SAYINGS + largest_sayings():
            values = strangers() + palette()
            for play in oracle.plays(saying)[::3]:
                self.assertIs(is_play(saying, play), True)
                values += [play + (True,), play[1:], list(play), tuple(int(truth) for truth in play)]
            values += list(mutants(oracle.plays(SMALL)[2]))
            for value in values:
                self.assertIs(is_play(saying, value), oracle.play(saying, value), value)
                self.assertIs(is_play(value=value, saying=saying), oracle.play(saying, value), value)

    def test_one_is_not_true(self):
        self.assertIs(is_play(SMALL, (True, False)), True)
        for value in [(1, False), (True, 0), (1, 0), (0, 0), (None, True), ("", True)]:
            self.assertIs(is_play(SMALL, value), False, value)

    def test_no_picks_have_one_play(self):
        self.assertIs(is_play(NO_PICKS, ()), True)
        self.assertIs(is_play(NO_PICKS, (True,)), False)
        self.assertIs(is_play(NO_PICKS, []), False)


class IsAnswers(Guarded):

    def test_answers(self):
        rng = random.Random(3)
        for saying in SAYINGS + largest_sayings() + sayings_of_24():
            for _ in range(3):
                answers = some_answers(rng, saying)
                self.assertIs(is_answers(saying, answers), True)
                self.assertIs(is_answers(value=answers, saying=saying), True)

    def test_one_change_at_any_depth_and_objects_of_all_kinds(self):
        rng = random.Random(4)
        for saying in SAYINGS:
            values = strangers() + palette() + list(mutants(some_answers(rng, saying)))
            for value in values:
                self.assertIs(is_answers(saying, value), oracle.answers(saying, value), value)

    def test_each_table_has_one_truth_for_each_copy(self):
        for value, wanted in [(((True,), (False, True)), True), (((False, True), (True,)), False), (((True,),), False),
                              (((True,), (False, True), ()), False), (((True,), (False, True, True)), False),
                              (((), (False, True)), False), (([True], (False, True)), False),
                              (((1,), (False, True)), False), (((True,), (False, 1)), False),
                              ([(True,), (False, True)], False), ((True, False, True), False)]:
            self.assertIs(is_answers(NO_CLAUSES, value), wanted, value)

    def test_no_owns_have_one_answers(self):
        self.assertIs(is_answers(NO_OWNS, ()), True)
        self.assertIs(is_answers(NO_OWNS, []), False)
        self.assertIs(is_answers(NO_OWNS, ((),)), False)

    def test_tables_of_the_largest_sayings(self):
        rng = random.Random(5)
        for saying in largest_sayings():
            answers = some_answers(rng, saying)
            for at, table in enumerate(answers):
                for wrong in (table[1:], table + (True,), list(table), table[:-1] + (1,), table[:-1] + (None,)):
                    self.assertIs(is_answers(saying, answers[:at] + (wrong,) + answers[at + 1:]), False)
