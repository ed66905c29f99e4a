"""Point 2: equal arguments give equal values, nothing is modified or kept, lists are new."""

import copy
import random

from onlyseen.answers import answers_with, broken_at, fixed, holds, many, nth, place, value_of
from onlyseen.cores import core, is_core, largest_kept, least_core, needed_clauses
from onlyseen.desk import Desk
from onlyseen.easy import (
    by_chains, chains, chains_hold, is_plain, is_sums, is_twos, least_true, sums_answers, sums_hold, sums_paper,
    sums_paper_holds,
)
from onlyseen.live import Live
from onlyseen.middles import is_middle, is_so, middle
from onlyseen.nets import fill, fills_many, is_net, net_saying, outs_at
from onlyseen.reading import read_clause, read_saying
from onlyseen.refutations import refutes, tells, trimmed, used
from onlyseen.sayings import copies, is_answers, is_clause, is_play, is_saying, letters_at, plays, seen
from onlyseen.settling import against, first_answers, follows, has_answers, settle
from onlyseen.shorter import after_cut, answers_back, cuts, refutation_back, shorter
from onlyseen.sights import (
    could_see, hangs, idle, idle_holds, idle_paper, least_sights, reached, thinned, with_sight, without_sight,
)
from onlyseen.texts import show_answers, show_clause, show_saying, show_steps
from tests import oracle, second
from tests.guard import Guarded, inner_parts, picture
from tests.kinds import goal_for, plain_saying, planted_sums, some_marked, some_net, some_sums, twos_saying
from tests.samples import (
    BARRED, EMPTY, NO_CLAUSES, NO_OWNS, NO_PICKS, SMALL, THREE, WITH_EMPTY_CLAUSE, WITHOUT_ANSWERS, great_sayings,
    largest_sayings, parity_sayings, some_answers, strangers, tight_sayings,
)

F, T = False, True


def rebuilt(value):
    """An equal object, all of whose tuples and lists are other ones."""
    if type(value) in (list, tuple):
        return type(value)([rebuilt(part) for part in value])
    return value


def calls():
    """Functions with arguments that are right; the counting ones with few copies alone."""
    rng = random.Random(18)
    found = []
    for saying in [SMALL, THREE, EMPTY, NO_PICKS, NO_CLAUSES] + largest_sayings()[:2]:
        answers = some_answers(rng, saying)
        play = oracle.plays(saying)[-1]
        rows = [truth for table in answers for truth in table]
        found += [(is_saying, saying), (is_clause, saying, ()), (is_play, saying, play), (is_answers, saying, answers),
                  (plays, saying), (copies, saying), (letters_at, saying, saying[2][0] if saying[2] else (), play),
                  (holds, saying, answers), (broken_at, saying, answers), (answers_with, saying, rows)]
        for name, _ in saying[1]:
            found += [(seen, saying, name, play), (value_of, saying, answers, name, play)]
        if len(rows) < 20:
            found += [(many, saying), (nth, saying, 0), (nth, saying, 1), (place, saying, answers), (fixed, saying)]
    return found


def sight_calls(saying):
    """Functions of sights with arguments that are right."""
    found = [(idle, saying), (thinned, saying), (could_see, saying)]
    for pick in saying[0]:
        found += [(reached, saying, pick, T), (reached, saying, pick, F)]
        for name, sight in saying[1]:
            found += [(hangs, saying, name, pick), (idle_paper, saying, name, pick), (without_sight, saying, name, pick),
                      (idle_holds, saying, name, pick, idle_paper(saying, name, pick))]
            if pick in sight:
                found.append((with_sight, saying, name, pick))
    return found


def search_calls():
    """Functions that search, with arguments that are right."""
    found = []
    few = [SMALL, THREE, EMPTY, NO_PICKS, NO_CLAUSES, NO_OWNS, BARRED, WITHOUT_ANSWERS, WITH_EMPTY_CLAUSE]
    for saying in few + tight_sayings(180, 12, 12, 10) + great_sayings(181, 2) + parity_sayings()[:3]:
        kind, told = settle(saying)
        every = tuple(range(len(saying[2])))
        found += [(settle, saying), (has_answers, saying), (first_answers, saying), (is_core, saying, every)]
        if kind == "answers":
            found += [(function, saying, clause) for function in (follows, against) for clause in saying[2][:3] + ((),)]
        else:
            steps = told + (("play",) + told[0][1:],)
            found += [(tells, saying, steps), (refutes, saying, steps), (refutes, saying, told)]
            found += [(trimmed, saying, told), (used, saying, told), (core, saying)]
        if len(saying[2]) <= 12:
            found += [(needed_clauses, saying), (largest_kept, saying)] + [(least_core, saying)] * (kind != "answers")
        found += sight_calls(saying)
        if kind == "answers" and sum(len(sight) for _, sight in saying[1]) <= 8:
            found.append((least_sights, saying))
    return found


def shorter_calls(saying):
    """Functions of cuts with arguments that are right."""
    left, done = second.shorter(saying)
    kind, told = settle(left)
    found = [(cuts, saying), (shorter, saying)] + [(after_cut, saying, cut) for cut in second.cuts(saying)[:3]]
    if kind == "answers":
        return found + [(answers_back, saying, done, told)]
    return found + [(refutation_back, saying, done, told)]


def kind_calls():
    """Functions of points 32 to 35, with arguments that are right."""
    rng = random.Random(182)
    found = []
    plain = [plain_saying(rng, 12, 12) for _ in range(6)]
    twos = [twos_saying(rng, 12, 14) for _ in range(6)]
    for saying in plain + twos + [SMALL, EMPTY, BARRED, NO_CLAUSES] + tight_sayings(183, 8, 12, 12):
        found += [(is_plain, saying), (is_twos, saying), (chains_hold, saying, ((), ()))] + shorter_calls(saying)
        copies = oracle.copies(saying)
        first = tuple(range(0, len(saying[2]), 2))
        marked = some_marked(rng, copies, 4)
        found += [(is_middle, saying, first, marked), (is_so, saying, marked, some_answers(rng, saying))]
        if not has_answers(saying):
            found.append((middle, saying, first))
    found += [(least_true, saying) for saying in plain]
    for saying in twos:
        found += [(by_chains, saying), (chains, saying), (chains_hold, saying, chains(saying))]
    for row in some_sums(184, 8) + planted_sums(185, 2, 12):
        by = some_answers(rng, row)
        found += [(is_sums, row), (sums_answers, row), (sums_hold, row, by), (sums_paper, row)]
        found += [(sums_paper_holds, row, sums_paper(row)), (sums_paper_holds, row, ("x", (0,)))]
    for number in range(8):
        net = some_net(rng, 2, 6, 2, 2)
        tables = rng.choice(second.every_tables(net))
        goal = goal_for(rng, net) if number % 2 else some_net(rng, 2, 3, 0, 2)
        found += [(is_net, net), (outs_at, net, tables, (T, F)), (net_saying, net, goal), (fill, net, goal),
                  (fills_many, net, goal)]
    return found


def of_live(method, saying):
    """What a method of a live saying with these clauses returns."""
    live = Live(*saying[:2])
    for clause in saying[2]:
        live.put(clause)
    return getattr(live, method)()


def of_desk(line, saying):
    """What a desk with a saying answers to a line."""
    desk = Desk()
    desk.execute("saying " + show_saying(saying))
    return desk.execute(line)


def text_calls():
    """Functions of points 36 to 39, with arguments that are right."""
    found = []
    for saying in [SMALL, THREE, EMPTY, NO_CLAUSES, NO_OWNS, BARRED, WITHOUT_ANSWERS] + tight_sayings(187, 8, 12, 10):
        kind, told = settle(saying)
        found += [(show_answers, saying, told)] if kind == "answers" else [(show_steps, saying, told)]
        found += [(show_saying, saying), (read_saying, show_saying(saying))]
        found += [(show_clause, clause) for clause in saying[2]] + [(read_clause, show_clause(c)) for c in saying[2]]
        barred = ["core"] * (kind != "answers")
        found += [(of_live, method, saying) for method in ["settle", "many", "idle", "has_answers"] + barred]
        found += [(of_desk, line, saying) for line in ["text", "settle", "many", "idle"] + barred]
    return found


def all_calls():
    return calls() + search_calls() + kind_calls() + text_calls()


class General(Guarded):

    def test_equal_arguments_give_equal_values_and_nothing_is_modified(self):
        for function, *passed in all_calls():
            before = picture(passed)
            first = function(*passed)
            self.assertEqual(picture(passed), before, function.__name__)
            kept = copy.deepcopy(first)
            self.assert_same(function(*rebuilt(passed)), kept)
            self.assert_same(function(*passed), kept)
            self.assert_same(first, kept)

    def test_equal_again_behind_other_calls(self):
        values = [(call, call[0](*call[1:])) for call in all_calls()]
        for call, value in reversed(values):
            self.assert_same(call[0](*call[1:]), value)

    def test_returned_lists_are_new(self):
        for function, *passed in all_calls():
            first, second = function(*passed), function(*passed)
            if type(first) is list:
                self.assertIsNot(first, second)
                parts = [id(part) for part in inner_parts(first) if type(part) is list]
                self.assertEqual(len(parts), len(set(parts)))
                first.append("more")
                self.assert_same(function(*passed), second)

    def test_whether_is_true_or_false(self):
        for value in strangers() + [SMALL, list(SMALL)]:
            for told in (is_saying(value), is_clause(SMALL, value), is_play(SMALL, value), is_answers(SMALL, value)):
                self.assertIs(type(told), bool)
        whether = (holds, is_saying, is_clause, is_play, is_answers, value_of, refutes, has_answers, follows, is_core,
                   hangs, idle_holds, is_plain, is_twos, chains_hold, is_sums, sums_hold, sums_paper_holds, is_net,
                   is_middle, is_so)
        for function, *passed in all_calls():
            told = function in whether or (function is of_live and passed[0] == "has_answers")
            self.assertEqual(type(function(*passed)) is bool, told, function.__name__)

    def test_numbers_are_integers_and_truths_are_truths(self):
        for saying in (SMALL, THREE, EMPTY, NO_PICKS, NO_CLAUSES):
            self.assertIs(type(many(saying)), int)
            for answers in oracle.every_answers(saying)[:8]:
                self.assertIs(type(place(saying, answers)), int)
            answers = nth(saying, 0)
            for part in inner_parts(answers):
                for one in part:
                    self.assertIn(type(one), (tuple, bool))
            for part in fixed(saying):
                self.assertEqual([type(one) for one in part], [str, tuple, bool])
        index, play = broken_at(SMALL, ((F, F), (F, F)))
        self.assertEqual((type(index), [type(one) for one in play]), (int, [bool, bool]))

    def test_what_is_told_is_of_tuples_lists_texts_truths_and_integers(self):
        for function, *passed in search_calls() + kind_calls() + text_calls():
            self.check_kinds(function(*passed))

    def check_kinds(self, value):
        self.assertIn(type(value), (tuple, list, str, bool, int, type(None)))
        if type(value) in (tuple, list):
            for part in value:
                self.check_kinds(part)

    def test_no_list_stands_in_two_places(self):
        for saying in [SMALL, THREE, EMPTY, WITHOUT_ANSWERS] + tight_sayings(186, 10, 12, 12):
            one, other = shorter(saying), shorter(saying)
            self.assertIsNot(one[1], other[1])
            one[1].append("more")
            self.assert_same(shorter(saying), other)

    def test_a_refused_call_changes_nothing(self):
        before = [call[0](*call[1:]) for call in calls()]
        for value in strangers():
            for function in (plays, copies, many, fixed, settle, has_answers, core, largest_kept, idle, least_sights,
                             least_true, chains, sums_paper, cuts, shorter):
                try:
                    function(value)
                except ValueError:
                    pass
        self.assert_same([call[0](*call[1:]) for call in calls()], before)
