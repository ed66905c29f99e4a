"""Points 37 and 38: texts, and reading them."""

import random

from onlyseen.errors import Unreadable
from onlyseen.reading import read_clause, read_saying
from onlyseen.settling import settle
from onlyseen.texts import show_answers, show_clause, show_saying, show_steps
from tests import oracle, writing
from tests.guard import Guarded
from tests.samples import (
    BARRED, BETWEEN, EMPTY, LARGEST_OWNS, NO_CLAUSES, NO_OWNS, NO_PICKS, PICKS, SAYINGS, SMALL, THREE, WITHOUT_ANSWERS,
    great_sayings, largest_sayings, nested, parity_sayings, random_clause, some_answers, some_sayings, strangers,
    tight_sayings,
)

F, T = False, True

# Of the document, point 37.
TOLD = (("x",), (("a", ()), ("b", ("x",))), ((("a", F), ("b", T)), (("a", T), ("x", F))))

# Names that are words of the texts, too.
WORDS = (("on", "pick"), (("own", ("pick",)), ("put", ())), ((), (("on", F), ("own", T)), (("own", F),), (("own", T), ("pick", T))))

# The first clause begins as an own does.
OWN_AHEAD = (("pick", "x"), (("own", ("x",)),), ((("own", T), ("pick", F)), (("own", T), ("x", T))))


def all_sayings():
    found = SAYINGS + [TOLD, WORDS, OWN_AHEAD] + some_sayings(400, 120) + tight_sayings(401, 40, 20, 20)
    return found + great_sayings(402, 3) + largest_sayings() + parity_sayings()


def steps_of(rng, saying):
    """Steps of clauses at plays, and joins of some of these; not each of them a step."""
    found = [("play", rng.randrange(len(saying[2])), rng.choice(oracle.plays(saying))) for _ in range(3 * bool(saying[2]))]
    for copy in oracle.copies(saying)[:4]:
        found.append(("join", rng.randrange(20), rng.randrange(20), copy))
    return tuple(found)


class Texts(Guarded):

    def test_clauses(self):
        for clause, text in [((), "."), ((("a", T),), "a"), ((("a", F),), "-a"), ((("a", F), ("b", T)), "-a b"),
                             ((("a", T), ("b", F), ("c", F)), "a -b -c"), ((("zzzzzzzz", F),), "-zzzzzzzz")]:
            self.assert_same(show_clause(clause), text)
            self.assert_same(show_clause(clause=clause), text)
        for saying in all_sayings():
            for clause in saying[2]:
                self.assert_same(show_clause(clause), writing.of_clause(clause))

    def test_sayings(self):
        for saying, text in [
            (TOLD, "pick x ; own a: - ; own b: x ; -a b ; a -x"), (EMPTY, "pick -"), (BARRED, "pick - ; ."),
            (NO_CLAUSES, "pick x ; own a: - ; own b: x"), (NO_OWNS, "pick x y ; -x y ; x y"),
            (WORDS, "pick on pick ; own own: pick ; own put: - ; . ; -on own ; -own ; own pick"),
            (BETWEEN, "pick m ; own a: m ; own z: - ; a m -z"),
            (OWN_AHEAD, "pick pick x ; own own: x ; own -pick ; own x"), (NO_PICKS, "pick - ; own a: - ; own b: - ; -a b ; a -b"),
        ]:
            self.assert_same(show_saying(saying), text)
            self.assert_same(show_saying(saying=saying), text)
        for saying in all_sayings():
            self.assert_same(show_saying(saying), writing.of_saying(saying))

    def test_answers(self):
        self.assert_same(show_answers(TOLD, ((T,), (F, T))), "a: 1 ; b: 01")
        self.assert_same(show_answers(answers=((T,), (F, T)), saying=TOLD), "a: 1 ; b: 01")
        self.assert_same([show_answers(EMPTY, ()), show_answers(NO_OWNS, ())], ["-", "-"])
        self.assert_same(show_answers(NO_PICKS, ((F,), (T,))), "a: 0 ; b: 1")
        rng = random.Random(403)
        for saying in all_sayings():
            for _ in range(3):
                answers = some_answers(rng, saying)
                self.assert_same(show_answers(saying, answers), writing.of_answers(saying, answers))

    def test_steps(self):
        steps = (("play", 0, (F, T)), ("play", 1, (T, T)), ("join", 1, 0, ("a", (T,))))
        self.assert_same(show_steps(WITHOUT_ANSWERS, steps), "0 @ 01, 1 @ 11, 1 + 0 on a 1")
        self.assert_same(show_steps(refutation=steps[:1], saying=WITHOUT_ANSWERS), "0 @ 01")
        self.assert_same(show_steps(BARRED, (("play", 0, ()),)), "0 @ -")
        alone = ((), (("a", ()),), ((("a", F),), (("a", T),)))
        steps = (("play", 0, ()), ("play", 1, ()), ("join", 1, 0, ("a", ())))
        self.assert_same(show_steps(alone, steps), "0 @ -, 1 @ -, 1 + 0 on a -")
        for saying in all_sayings():
            kind, told = settle(saying)
            if kind == "refutation":
                self.assert_same(show_steps(saying, told), writing.of_steps(told))
        rng = random.Random(404)
        for saying in all_sayings():
            steps = steps_of(rng, saying)
            self.assert_same(show_steps(saying, steps), writing.of_steps(steps))

    def test_numbers_of_two_digits_and_more(self):
        saying = parity_sayings()[4]
        _, told = settle(saying)
        text = show_steps(saying, told)
        self.assertEqual(len(text.split(", ")), len(told))
        self.assertIn(f", {told[-1][1]} + {told[-1][2]} on {told[-1][3][0]} ", text)


def changed(text):
    """The text with one sign other, one less or one more."""
    signs = " -.;:,=ab xz01A\n"
    for at in range(len(text) + 1):
        for sign in signs:
            yield text[:at] + sign + text[at:]
            yield text[:at] + sign + text[at + 1:]
        yield text[:at] + text[at + 1:]
        yield text[:at] + text[at:at + 1] + text[at:]
        yield text[:at]
        yield text[at:]


class Reading(Guarded):

    def check_saying(self, text):
        wanted = writing.saying_of(text)
        if wanted is None:
            self.assert_refused(Unreadable, text, lambda: read_saying(text))
        else:
            self.assert_same(read_saying(text), wanted)
            self.assert_same(show_saying(wanted), text)
        return wanted is not None

    def check_clause(self, text):
        wanted = writing.clause_of(text)
        if wanted is None:
            self.assert_refused(Unreadable, text, lambda: read_clause(text))
        else:
            self.assert_same(read_clause(text), wanted)
            self.assert_same(show_clause(wanted), text)
        return wanted is not None

    def test_what_is_shown_is_read(self):
        for saying in all_sayings():
            self.assert_same(read_saying(show_saying(saying)), saying)
            self.assert_same(read_saying(text=show_saying(saying)), saying)
            for clause in saying[2] + ((),):
                self.assert_same(read_clause(show_clause(clause)), clause)
                self.assert_same(read_clause(text=show_clause(clause)), clause)

    def test_clauses_of_any_names(self):
        rng = random.Random(405)
        names = tuple(chosen for chosen in ("a", "own", "pick", "zzzzzzzz", "q", "saying", "bb"))
        for _ in range(200):
            clause = random_clause(rng, names, (), 7)
            self.assert_same(read_clause(show_clause(clause)), clause)
        long_one = tuple((one + other, T) for one in "abcdef" for other in "abcdefgh")
        self.assert_same(read_clause(show_clause(long_one)), long_one)

    def test_one_sign_other_less_or_more(self):
        met = [0, 0]
        for saying in [TOLD, WORDS, OWN_AHEAD, EMPTY, BARRED, NO_OWNS, SMALL, BETWEEN]:
            for text in changed(show_saying(saying)):
                met[self.check_saying(text)] += 1
        self.assertGreater(min(met), 150)
        met = [0, 0]
        for clause in [(), (("a", T),), (("a", F), ("b", T)), (("aaaaaaaa", F), ("x", F)), THREE[2][0]]:
            for text in changed(show_clause(clause)):
                met[self.check_clause(text)] += 1
        self.assertGreater(min(met), 80)

    def test_drawn_texts(self):
        rng = random.Random(406)
        words = ["pick", "own", "a:", "b:", "a", "b", "x", "y", "-a", "-b", "-x", ";", "-", "."]
        met = [0, 0, 0]
        for _ in range(3000):
            text = " ".join(rng.choice(words) for _ in range(rng.randint(1, 4)))
            self.check_clause(text)
            text = "pick x y ; own a: x ; own b: - ; " + text
            met[self.check_saying(text)] += 1
            parts = ["pick x", "pick -", "own a: -", "own b: x", "own a: x", "-a b", "a", ".", "x", "-x", "own", "own a"]
            text = " ; ".join(rng.choices(parts, weights=[9, 3] + [2] * 10, k=rng.randint(1, 4)))
            met[2] += self.check_saying(text)
        self.assertGreater(min(met), 100)

    def test_texts_that_are_none(self):
        for text in ["", " ", "pick", "pick ", "pick  x", "pick x ", " pick x", "pick x;", "pick x ;", "pick x ; ", "Pick x",
                     "pick x y ; ;", "pick y x", "pick x x", "pick -x", "pick .", "pick - x", "pick aaaaaaaaa", "own a: -",
                     "pick x ; own a", "pick x ; own a:", "pick x ; own a: ", "pick x ; own a:x", "pick x ; own a : x",
                     "pick x ; own a: y", "pick x ; own x: -", "pick x ; own a: x x", "pick x ; own b: - ; own a: -",
                     "pick x ; own a: - ; own a: -", "pick x ; own a: - ; b", "pick x ; own a: - ; a -a", "pick x ; -x x",
                     "pick x ; own a: - ; x a", "pick x ; own a: - ; a ; a", "pick x ; own a: - ; a ; -a", "pick x ; a: -",
                     "pick x ; own a: - ; a ; own b: -", "pick x ; own a: - ; a ; .", "pick x ; own a: - ; --a",
                     "pick x ; own a: - ; - a", "pick x ; own a: - ; -", "pick x ; own a: - ; . a", "pick x ; own : x",
                     "pick x\n", "pick x ; own a: -\n", "pick x ; pick x", "pick x ; own a b: -", "-", ".",
                     "pick x ; own a: - ; a ", "pick x ; own a: - ;  a", "pick x  ; own a: -", "pick x ; own  a: -"]:
            self.assertIs(self.check_saying(text), F, text)
        for text in ["", " ", "-", "--a", "a-", "a ", " a", "a  b", "b a", "a a", "a -a", "-a a", "A", "a1", "aaaaaaaaa", ". ",
                     "..", ". a", "a .", "a;b", "a ; b", "a\n", "-a\n", "- a", "-.", "a, b", "a:"]:
            self.assertIs(self.check_clause(text), F, text)

    def test_any_object(self):
        for wrong in strangers() + [["pick", "-"], ("pick -",), ["pick -"], b"pick -", {"pick -": 1}, nested(100, list)]:
            if writing.saying_of(wrong) is None:
                self.assert_refused(Unreadable, wrong, lambda: read_saying(wrong))
                self.assert_refused(Unreadable, wrong, lambda: read_saying(text=wrong))
            if writing.clause_of(wrong) is None:
                self.assert_refused(Unreadable, wrong, lambda: read_clause(wrong))
                self.assert_refused(Unreadable, wrong, lambda: read_clause(text=wrong))
        for wrong in ([("a", T)], (("a", T),), SMALL):
            self.assert_refused(Unreadable, wrong, lambda: read_clause(wrong))
            self.assert_refused(Unreadable, wrong, lambda: read_saying(wrong))

    def test_more_than_may_be(self):
        clauses = sorted([((one, truth), (other, T)) for truth in (F, T) for one in "abcdefg" for other in "bcdefgh"
                          if one < other])[:41]
        owns = tuple((name, ()) for name in "abcdefgh")
        self.assertIs(self.check_saying(writing.of_saying(((), owns, tuple(clauses[:40])))), T)
        self.assertIs(self.check_saying(writing.of_saying(((), owns, tuple(clauses)))), F)
        self.assertIs(self.check_saying(writing.of_saying(((), owns + (("i", ()),), ()))), F)
        self.assertIs(self.check_saying(writing.of_saying((PICKS, LARGEST_OWNS, ()))), T)
        self.assertIs(self.check_saying(writing.of_saying((PICKS, LARGEST_OWNS + (("e", ()),), ()))), F)
        self.assertIs(self.check_saying(writing.of_saying((PICKS + ("zz",), (), ()))), F)
        self.assertIs(self.check_saying("pick " + "a" * 8), T)
        self.assertIs(self.check_saying("pick " + "a" * 9), F)
