"""Points 5, 6 and 10: plays, seen, copies, letters_at."""

from onlyseen.sayings import copies, letters_at, plays, seen
from tests import oracle
from tests.guard import Guarded
from tests.samples import (
    BARRED, EMPTY, NO_CLAUSES, NO_OWNS, NO_PICKS, PICKS, SAYINGS, SMALL, THREE, largest_sayings, sayings_of_24,
    some_sayings,
)

MANY = SAYINGS + some_sayings(2, 60, 20, 12)
F, T = False, True


class Plays(Guarded):

    def test_the_last_truth_changes_first(self):
        self.assert_same(plays(SMALL), [(F, F), (F, T), (T, F), (T, T)])
        self.assert_same(plays(NO_CLAUSES), [(F,), (T,)])
        self.assert_same(plays(THREE)[:5], [(F, F, F), (F, F, T), (F, T, F), (F, T, T), (T, F, F)])

    def test_without_picks_there_is_one_play(self):
        self.assert_same(plays(NO_PICKS), [()])
        self.assert_same(plays(EMPTY), [()])

    def test_all_plays_of_sayings(self):
        for saying in MANY + largest_sayings():
            self.assert_same(plays(saying), oracle.plays(saying))
            self.assert_same(plays(saying=saying), oracle.plays(saying))

    def test_six_picks_have_sixty_four(self):
        for saying in [(PICKS, (), ())] + largest_sayings() + sayings_of_24()[:2]:
            self.assertEqual(len(plays(saying)), 64)
            self.assert_same(plays(saying)[-2:], [(T, T, T, T, T, F), (T,) * 6])

    def test_the_list_is_new_each_time(self):
        first = plays(SMALL)
        first.clear()
        self.assert_same(plays(SMALL), [(F, F), (F, T), (T, F), (T, T)])


class Seen(Guarded):

    def test_the_truths_of_the_sight_alone(self):
        self.assert_same(seen(SMALL, "a", (T, F)), (T,))
        self.assert_same(seen(SMALL, "b", (T, F)), (F,))
        self.assert_same(seen(THREE, "zzzzzzzz", (T, T, F)), (T, F))
        self.assert_same(seen(THREE, "zzzzzzzz", (F, F, T)), (F, T))
        self.assert_same(seen(THREE, "c", (T, T, T)), ())
        self.assert_same(seen(NO_PICKS, "a", ()), ())

    def test_all_owns_at_all_plays(self):
        for saying in MANY + largest_sayings():
            for play in oracle.plays(saying):
                for name, _ in saying[1]:
                    self.assert_same(seen(saying, name, play), oracle.seen(saying, name, play))
        self.assert_same(seen(play=(T, F), name="b", saying=SMALL), (F,))


class Copies(Guarded):

    def test_by_the_places_in_the_table(self):
        self.assert_same(copies(SMALL), [("a", (F,)), ("a", (T,)), ("b", (F,)), ("b", (T,))])
        self.assert_same(copies(THREE), [
            ("ab", (F, F)), ("ab", (T, F)), ("ab", (F, T)), ("ab", (T, T)), ("c", ()),
            ("zzzzzzzz", (F, F)), ("zzzzzzzz", (T, F)), ("zzzzzzzz", (F, T)), ("zzzzzzzz", (T, T)),
        ])
        three = (("x", "y", "z"), (("a", ("x", "y", "z")),), ())
        self.assert_same(copies(three)[3:6], [("a", (T, T, F)), ("a", (F, F, T)), ("a", (T, F, T))])

    def test_no_owns_and_no_picks(self):
        self.assert_same(copies(NO_OWNS), [])
        self.assert_same(copies(EMPTY), [])
        self.assert_same(copies(BARRED), [])
        self.assert_same(copies(NO_PICKS), [("a", ()), ("b", ())])

    def test_all_copies_of_sayings(self):
        for saying in MANY + largest_sayings():
            self.assert_same(copies(saying), oracle.copies(saying))
            self.assert_same(copies(saying=saying), oracle.copies(saying))

    def test_a_hundred_and_twenty(self):
        for saying in largest_sayings():
            self.assertEqual(len(copies(saying)), 120)
            self.assertEqual(len(set(copies(saying))), 120)

    def test_the_list_is_new_each_time(self):
        first = copies(SMALL)
        first[0] = None
        self.assert_same(copies(SMALL)[0], ("a", (F,)))


class LettersAt(Guarded):

    def test_by_the_plays(self):
        clause = (("a", T), ("b", F), ("x", F))
        self.assert_same(letters_at(SMALL, clause, (T, F)), (("a", (T,), T), ("b", (F,), F)))
        self.assert_same(letters_at(SMALL, clause, (T, T)), (("a", (T,), T), ("b", (T,), F)))
        self.assertIsNone(letters_at(SMALL, clause, (F, F)))
        self.assertIsNone(letters_at(SMALL, clause, (F, T)))

    def test_the_empty_clause_and_clauses_of_picks(self):
        for play in plays(SMALL):
            self.assert_same(letters_at(SMALL, (), play), ())
        self.assert_same(letters_at(NO_OWNS, (("x", T), ("y", F)), (F, T)), ())
        self.assertIsNone(letters_at(NO_OWNS, (("x", T), ("y", F)), (F, F)))
        self.assertIsNone(letters_at(NO_OWNS, (("x", T), ("y", F)), (T, T)))
        self.assert_same(letters_at(EMPTY, (), ()), ())

    def test_a_clause_need_not_stand_in_the_saying(self):
        self.assert_same(letters_at(NO_CLAUSES, (("a", F), ("b", T)), (T,)), (("a", (), F), ("b", (T,), T)))

    def test_all_clauses_at_all_plays(self):
        for saying in MANY + largest_sayings():
            for clause in saying[2] + ((),):
                for play in oracle.plays(saying):
                    self.assert_same(letters_at(saying, clause, play), oracle.letters_at(saying, clause, play))
        self.assert_same(letters_at(play=(F, F), clause=(("a", T),), saying=SMALL), (("a", (F,), T),))
