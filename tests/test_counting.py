"""Point 11: many, nth, place, fixed, by going through all answers of sayings with few copies."""

from onlyseen.answers import fixed, holds, many, nth, place
from onlyseen.errors import InvalidNumber, NoAnswers
from tests import oracle
from tests.guard import Guarded, picture
from tests.samples import (
    BARRED, BETWEEN, EMPTY, NO_CLAUSES, NO_OWNS, NO_PICKS, SAYINGS, SMALL, WITH_EMPTY_CLAUSE, WITHOUT_ANSWERS,
    some_sayings,
)

F, T = False, True


class Counting(Guarded):

    def check(self, saying):
        those = oracle.holding(saying)
        self.assert_same(many(saying), len(those))
        for number, answers in enumerate(those):
            self.assert_same(nth(saying, number), answers)
        for number in (len(those), len(those) + 1, 10 ** 30):
            self.assertIsNone(nth(saying, number))
        if those:
            self.assert_same(fixed(saying), oracle.fixed(saying, those))
        else:
            self.assert_refused(NoAnswers, saying, lambda: fixed(saying))
        return those

    def check_places(self, saying, those, step):
        for answers in oracle.every_answers(saying)[::step]:
            self.assert_same(place(saying, answers), sum(other < answers for other in those))

    def test_sayings_with_few_copies(self):
        met = {True: 0, False: 0}
        for saying in SAYINGS + some_sayings(15, 200, 6, 10):
            those = self.check(saying)
            self.check_places(saying, those, 1)
            met[bool(those)] += 1
        self.assertGreater(min(met.values()), 20)

    def test_sayings_with_some_more_copies(self):
        for saying in some_sayings(16, 40, 9, 16):
            self.check_places(saying, self.check(saying), 7)

    def test_with_no_owns(self):
        self.assert_same([many(EMPTY), nth(EMPTY, 0), nth(EMPTY, 1), place(EMPTY, ()), fixed(EMPTY)],
                         [1, (), None, 0, []])
        self.assert_same([many(NO_OWNS), nth(NO_OWNS, 0), place(NO_OWNS, ())], [0, None, 0])
        self.assert_same([many(BARRED), nth(BARRED, 0), place(BARRED, ())], [0, None, 0])
        always = (("x",), (), ((("x", F),),))
        self.assert_same(many(always), 0)

    def test_with_no_picks(self):
        self.assert_same(many(NO_PICKS), 2)
        self.assert_same([nth(NO_PICKS, 0), nth(NO_PICKS, 1), nth(NO_PICKS, 2)], [((F,), (F,)), ((T,), (T,)), None])
        self.assert_same(fixed(NO_PICKS), [])

    def test_with_no_clauses(self):
        self.assert_same(many(NO_CLAUSES), 8)
        self.assert_same([nth(NO_CLAUSES, k) for k in (0, 1, 2, 4, 7)],
                         [((F,), (F, F)), ((F,), (F, T)), ((F,), (T, F)), ((T,), (F, F)), ((T,), (T, T))])
        self.assert_same(fixed(NO_CLAUSES), [])

    def test_with_the_empty_clause_or_without_answers(self):
        for saying in (WITH_EMPTY_CLAUSE, WITHOUT_ANSWERS, BARRED, NO_OWNS):
            self.assert_same(many(saying), 0)
            self.assertIsNone(nth(saying, 0))
            self.assert_refused(NoAnswers, saying, lambda: fixed(saying))
            for answers in oracle.every_answers(saying):
                self.assert_same(place(saying, answers), 0)

    def test_place_of_answers_by_which_it_does_not_hold(self):
        self.assertIs(holds(SMALL, ((T, T), (T, T))), False)
        self.assert_same(place(SMALL, ((T, T), (T, T))), 2)
        self.assert_same(place(SMALL, ((F, F), (F, F))), 0)
        self.assert_same(place(SMALL, ((F, T), (F, F))), 0)
        self.assert_same(place(SMALL, ((F, T), (F, T))), 1)
        self.assert_same(place(answers=((F, T), (T, F)), saying=SMALL), 2)

    def test_fixed_stands_by_copies(self):
        self.assert_same(fixed(SMALL), [("a", (F,), F), ("a", (T,), T), ("b", (F,), F)])
        self.assert_same(fixed(saying=(("x",), (("a", ("x",)), ("b", ())), ((("a", F), ("b", F)), (("b", T),)))),
                         [("a", (F,), F), ("a", (T,), F), ("b", (), T)])
        swapped = (("x", "y"), (("a", ("x", "y")),), ((("a", F), ("x", F), ("y", T)), (("a", T), ("x", T), ("y", F))))
        self.assert_same(fixed(swapped), [("a", (T, F), F), ("a", (F, T), T)])

    def test_fixed_is_found_where_no_clause_alone_fixes_it(self):
        saying = ((), (("a", ()), ("b", ())), ((("a", F), ("b", T)), (("a", T), ("b", T))))
        self.assert_same(fixed(saying), [("b", (), T)])
        saying = ((), (("a", ()), ("b", ()), ("c", ())),
                  ((("a", F), ("b", F)), (("a", F), ("b", T), ("c", F)), (("a", F), ("b", T), ("c", T))))
        self.assert_same(fixed(saying), [("a", (), F)])

    def test_by_name(self):
        self.assert_same([many(saying=SMALL), nth(number=1, saying=SMALL)], [2, ((F, T), (F, T))])

    def test_numbers_below_zero(self):
        for saying in (SMALL, EMPTY, BARRED, BETWEEN, NO_CLAUSES):
            for number in (-1, -2, -100, -10 ** 30):
                self.assert_refused(InvalidNumber, number, lambda: nth(saying, number))
                self.assert_refused(InvalidNumber, number, lambda: nth(number=number, saying=saying))

    def test_no_object_of_another_kind_is_a_number(self):
        # The document names no error for these; an answer they have not.
        for wrong in (None, "", "1", b"1", [], [1], [[1]], (), (1,), ({},), {}, {1: [2]}, set(), {1}, frozenset()):
            before = picture(wrong)
            for call in (lambda: nth(SMALL, wrong), lambda: nth(number=wrong, saying=SMALL)):
                with self.assertRaises((InvalidNumber, TypeError)):
                    call()
            self.assertEqual(picture(wrong), before)

    def test_the_list_of_fixed_is_new_each_time(self):
        first = fixed(SMALL)
        first.clear()
        self.assertEqual(len(fixed(SMALL)), 3)
