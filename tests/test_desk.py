"""Point 39: a desk, beside the functions called one by one and plain sets that the test keeps itself."""

import random
import re

from onlyseen.answers import many
from onlyseen.cores import core
from onlyseen.desk import Desk
from onlyseen.errors import (
    Holds, InvalidClause, InvalidCommand, InvalidName, InvalidSight, Nothing, NotReady,
)
from onlyseen.settling import settle
from onlyseen.sights import idle
from tests import checker, oracle, writing
from tests.guard import Timed
from tests.samples import (
    BARRED, EMPTY, LARGEST_OWNS, NO_OWNS, PICKS, SAYINGS, SMALL, THREE, WITHOUT_ANSWERS, great_sayings, nested,
    parity_sayings, strangers, tight_sayings,
)
from tests.test_live import Plain, drawn_deed
from tests.test_texts import changed

F, T = False, True

TOLD = (("x",), (("a", ()),), ((("a", F), ("x", T)), (("a", T), ("x", F))))
NAMES = re.compile(f"{writing.NAME} {writing.NAME}")
ALONE = ("back", "text", "settle", "many", "core", "idle")


def command_of(line):
    """The command that a line is, None if it is none; read by patterns."""
    if type(line) is not str:
        return None
    if line in ALONE:
        return (line,)
    for word in ("put", "take", "show", "hide", "saying"):
        if line[:len(word) + 1] == word + " ":
            rest = line[len(word) + 1:]
            if word in ("show", "hide"):
                return (word,) + tuple(rest.split(" ")) if NAMES.fullmatch(rest) else None
            told = writing.saying_of(rest) if word == "saying" else writing.clause_of(rest)
            return None if told is None else (word, told)
    return None


def line_of(deed):
    """The line of a deed."""
    if deed[0] in ("put", "take"):
        return deed[0] + " " + writing.of_clause(deed[1])
    return " ".join(deed)


def wanted_of(saying, word):
    """What a look answers, and the error it raises, by the functions called one by one."""
    if word == "text":
        return writing.of_saying(saying)
    if word == "many":
        return str(many(saying))
    if word == "idle":
        return ", ".join(name + " " + pick for name, pick in idle(saying)) or "-"
    kind, told = settle(saying)
    if word == "settle":
        return "answers " + writing.of_answers(saying, told) if kind == "answers" else "refuted " + str(len(told))
    if kind == "answers":
        return Holds
    return " ; ".join(writing.of_clause(saying[2][index]) for index in core(saying))


def plain_of(saying):
    """The plain sets behind a command `saying`."""
    plain = Plain(*saying[:2])
    for clause in saying[2]:
        plain.do(("put", clause))
    return plain


def desk_with(saying):
    desk = Desk()
    desk.execute("saying " + writing.of_saying(saying))
    return desk


class Commands(Timed):

    def test_the_example(self):
        desk = Desk()
        lines = ["saying pick x ; own a: - ; -a x ; a -x", "many", "core", "show a x", "settle", "idle", "back", "text"]
        self.assert_same([desk.execute(line) for line in lines], [
            "ok", "0", "-a x ; a -x", "ok", "answers a: 01", "-", "show", "pick x ; own a: - ; -a x ; a -x",
        ])
        self.assert_same(desk.execute(line="many"), "0")

    def test_each_command(self):
        desk = Desk()
        for line, wanted in [
            ("saying pick x y ; own a: - ; own b: y", "ok"), ("text", "pick x y ; own a: - ; own b: y"), ("many", "8"),
            ("idle", "b y"), ("put a b", "ok"), ("put -a -x", "ok"), ("put .", "ok"), ("many", "0"), ("core", "."),
            ("settle", "refuted 1"), ("take .", "ok"), ("back", "take"), ("back", "put"), ("put b y", "ok"), ("many", "1"),
            ("settle", "answers a: 0 ; b: 11"), ("back", "put"), ("hide b y", "ok"), ("idle", "-"), ("show a x", "ok"),
            ("text", "pick x y ; own a: x ; own b: - ; -a -x ; a b"), ("take a b", "ok"), ("back", "take"),
            ("back", "show"), ("back", "hide"), ("back", "put"), ("back", "put"), ("text", "pick x y ; own a: - ; own b: y"),
        ]:
            self.assert_same(desk.execute(line), wanted)
        self.assert_refused(Nothing, None, lambda: desk.execute("back"))

    def test_edges_of_texts(self):
        desk = desk_with(EMPTY)
        self.assert_same([desk.execute(line) for line in ("text", "many", "idle", "settle")], ["pick -", "1", "-", "answers -"])
        desk = desk_with(BARRED)
        self.assert_same([desk.execute(line) for line in ("text", "many", "core", "settle")], ["pick - ; .", "0", ".", "refuted 1"])
        desk = desk_with(NO_OWNS)
        self.assert_same([desk.execute(line) for line in ("many", "settle")], ["0", "refuted 1"])
        desk = desk_with((("x", "y"), (("a", ("x", "y")), ("b", ("x",))), ()))
        self.assert_same(desk.execute("idle"), "a x, a y, b x")

    def test_back_takes_the_clauses_of_saying_back_one_by_one(self):
        desk = desk_with(SMALL)
        for left in (2, 1, 0):
            self.assert_same(desk.execute("back"), "put")
            self.assert_same(desk.execute("text"), writing.of_saying(SMALL[:2] + (SMALL[2][:left],)))
        self.assert_refused(Nothing, None, lambda: desk.execute("back"))
        desk.execute("put a")
        # A new saying: nothing of the one ahead is left.
        self.assert_same(desk.execute("saying pick -"), "ok")
        self.assert_refused(Nothing, None, lambda: desk.execute("back"))
        self.assert_same(desk.execute("text"), "pick -")

    def test_two_desks_go_their_own_ways(self):
        one, other = desk_with(SMALL), Desk()
        self.assert_refused(NotReady, None, lambda: other.execute("text"))
        other.execute("saying " + writing.of_saying(SMALL))
        one.execute("take -a x")
        self.assert_same([one.execute("back"), other.execute("back")], ["take", "put"])

    def test_the_greatest(self):
        for saying in great_sayings(420, 8) + parity_sayings():
            desk = desk_with(saying)
            self.assert_same(desk.execute("text"), writing.of_saying(saying))
            kind, told = settle(saying)
            answer = self.timed(desk.execute, "settle")
            if kind == "answers":
                self.assert_same(answer, "answers " + writing.of_answers(saying, told))
            else:
                self.assert_same(answer, f"refuted {len(told)}")
                self.assertIs(checker.refutes(saying, told), T)
            self.assert_same(self.timed(desk.execute, "idle"), wanted_of(saying, "idle"))


class LongRows(Timed):

    def drawn_line(self, rng, plain):
        """A line, mostly of what may be done."""
        if rng.random() < 0.06:
            return "saying " + writing.of_saying(rng.choice(SAYINGS + self.few))
        if plain is None or rng.random() < 0.35:
            return rng.choice(ALONE)
        line = line_of(drawn_deed(rng, plain))
        if rng.random() < 0.05:
            return line.replace("x", "zz")
        return rng.choice(list(changed(line))) if rng.random() < 0.1 else line

    def error_of(self, plain, command, line):
        """The error of a line and its value; None if there is none."""
        if command is None:
            return InvalidCommand, line
        if command[0] == "saying":
            return None
        if plain is None:
            return NotReady, None
        if command[0] in ("put", "take") and not oracle.clause(plain.saying(), command[1]):
            return InvalidClause, command[1]
        if command[0] in ("show", "hide"):
            for name, names in zip(command[1:], (list(plain.sights), plain.picks)):
                if name not in names:
                    return InvalidName, name
        if command[0] == "core" and settle(plain.saying())[0] == "answers":
            return Holds, plain.saying()
        return None if command[0] in ALONE[1:] else plain.refused(command)

    def test_rows_of_lines(self):
        rng = random.Random(421)
        self.few = tight_sayings(422, 8, 12, 10)
        met = {}
        for _ in range(24):
            desk, plain = Desk(), None
            for _ in range(150):
                line = self.drawn_line(rng, plain)
                command = command_of(line)
                error = self.error_of(plain, command, line)
                if plain is not None and len(oracle.copies(plain.saying())) > 24 and command in [("many",), ("core",)]:
                    continue
                if error is not None:
                    self.assert_refused(error[0], error[1], lambda: desk.execute(line))
                    key = error[0].__name__
                elif command[0] == "saying":
                    self.assert_same(desk.execute(line), "ok")
                    plain = plain_of(command[1])
                    key = "saying"
                elif command[0] in ALONE[1:]:
                    self.assert_same(desk.execute(line), wanted_of(plain.saying(), command[0]))
                    key = command[0]
                else:
                    wanted = plain.do(command)
                    self.assert_same(desk.execute(line), "ok" if wanted is None else wanted)
                    key = command[0]
                met[key] = met.get(key, 0) + 1
                if plain is not None:
                    self.assert_same(desk.execute("text"), writing.of_saying(plain.saying()))
            while plain is not None and plain.deeds:
                self.assert_same(desk.execute("back"), plain.do(("back",)))
                self.assert_same(desk.execute("text"), writing.of_saying(plain.saying()))
        wanted = {"InvalidCommand", "NotReady", "InvalidClause", "InvalidName", "InvalidSight", "Holds", "Nothing", "saying",
                  "put", "take", "show", "hide", "back", "text", "settle", "many", "core", "idle"}
        self.assertEqual(set(met), wanted)
        self.assertGreater(min(met.values()), 4)


class Refused(Timed):

    def refuse(self, line):
        """A line that is none, at a desk with a saying and at one without."""
        desk = desk_with(SMALL)
        for one in (desk, Desk()):
            self.assert_refused(InvalidCommand, line, lambda: one.execute(line))
            self.assert_refused(InvalidCommand, line, lambda: one.execute(line=line))
        self.assert_same([desk.execute("text"), desk.execute("back")], [writing.of_saying(SMALL), "put"])

    def test_any_object(self):
        for wrong in strangers() + [["many"], ("many",), b"many", {"many": 1}, [["text"]], nested(100, tuple)]:
            self.assertIsNone(command_of(wrong))
            self.refuse(wrong)

    def test_lines_that_are_none(self):
        for line in ["", " ", "many ", " many", "many many", "many 1", "Many", "text ", "text x", "settle ", "core .", "idle -",
                     "back back", "back ", "backs", "undo", "help", "ok", "put", "put ", "put  a", "put a ", "put b a", "put a a",
                     "put a -a", "put A", "put a  b", "put. ", "put.", "put -", "put a ; b", "put aaaaaaaaa", "take", "take ",
                     "take  a", "take a ", "show", "show ", "show a", "show a ", "show a  x", "show  a x", "show a x ",
                     "show a x y", "show A x", "show a X", "show a 1", "show aaaaaaaaa x", "show a aaaaaaaaa", "show a -x",
                     "hide", "hide a", "hide a x ", "hide . x", "saying", "saying ", "saying pick", "saying  pick x",
                     "saying pick x ", "saying pick y x", "saying pick x ; own a: y", "saying x", "pick x", "saying -",
                     "saying pick x ; own a: - ; b", "many\n", "put a\n", "text\n", "saying pick x\n", "\nmany",
                     "show a\nx", "show\na x", "put\na", "saying\npick x"]:
            self.assertIsNone(command_of(line), line)
            self.refuse(line)

    def test_a_saying_with_more_than_may_be(self):
        for saying in [(PICKS, LARGEST_OWNS + (("e", ()),), ()), (PICKS + ("zz",), (), ()),
                       ((), tuple((name, ()) for name in "abcdefghi"), ())]:
            self.refuse("saying " + writing.of_saying(saying))
        desk = Desk()
        self.assert_same(desk.execute("saying " + writing.of_saying((PICKS, LARGEST_OWNS, ()))), "ok")
        self.assert_refused(InvalidSight, ("d", "u"), lambda: desk.execute("show d u"))

    def test_lines_with_one_sign_other_less_or_more(self):
        met = [0, 0]
        lines = ["many", "put -a y", "take .", "show a y", "hide b y", "saying " + writing.of_saying(TOLD)]
        for line in lines:
            for other in changed(line):
                command = command_of(other)
                met[command is not None] += 1
                if command is None:
                    self.assert_refused(InvalidCommand, other, lambda: Desk().execute(other))
                elif command[0] == "saying":
                    self.assert_same(Desk().execute(other), "ok")
                else:
                    self.assert_refused(NotReady, None, lambda: Desk().execute(other))
        self.assertGreater(min(met), 100)

    def test_without_a_live(self):
        desk = Desk()
        for line in ALONE + ("put a", "take .", "show a x", "hide a x", "put zz -zzz"):
            self.assert_refused(NotReady, None, lambda: desk.execute(line))
        self.refuse("put b a")
        self.assert_same(desk.execute("saying pick x"), "ok")
        self.assert_same(desk.execute("text"), "pick x")

    def test_the_errors_of_what_is_done(self):
        desk = desk_with(SMALL)
        text = writing.of_saying(SMALL)
        clause = SMALL[2][0]
        for line, error, value in [
            ("put " + writing.of_clause(clause), InvalidClause, clause), ("take a", InvalidClause, (("a", T),)),
            ("put zz", InvalidClause, (("zz", T),)), ("take -zz a", None, None), ("take -a zz", InvalidClause, (("a", F), ("zz", T))),
            ("show x x", InvalidName, "x"), ("show a a", InvalidName, "a"), ("show zz zz", InvalidName, "zz"),
            ("hide a zz", InvalidName, "zz"), ("show a x", InvalidSight, ("a", "x")), ("hide a y", InvalidSight, ("a", "y")),
            ("core", Holds, SMALL),
        ]:
            if error is None:
                self.refuse(line)
            else:
                self.assert_refused(error, value, lambda: desk.execute(line))
            self.assert_same(desk.execute("text"), text)
        self.assert_same([desk.execute("back") for _ in range(3)], ["put"] * 3)
        self.assert_refused(Nothing, None, lambda: desk.execute("back"))
        self.assert_same(desk.execute("text"), writing.of_saying(SMALL[:2] + ((),)))

    def test_a_refused_saying_leaves_the_one_ahead(self):
        desk = desk_with(THREE)
        for line in ["saying pick", "saying " + writing.of_saying(WITHOUT_ANSWERS) + " "]:
            self.assert_refused(InvalidCommand, line, lambda: desk.execute(line))
        self.assert_same([desk.execute("text"), desk.execute("back")], [writing.of_saying(THREE), "put"])

    def test_lists_are_new_in_the_error(self):
        inner = [1, [2]]
        wrong = [inner, ([inner], (inner, [[inner]])), inner]
        for desk in (Desk(), desk_with(SMALL)):
            with self.assertRaises(InvalidCommand) as caught:
                desk.execute(wrong)
            self.assert_same(caught.exception.value, wrong)
            self.assert_new(caught.exception.value, wrong)
            caught.exception.value[0][1].append(3)
            self.assert_same([caught.exception.value[2], inner], [[1, [2]], [1, [2]]])
