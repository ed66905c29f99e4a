"""The whole document over the whole program: functions of all modules on what the others tell."""

import random

from onlyseen.answers import answers_with, broken_at, fixed, holds, many, nth, place, value_of
from onlyseen.cores import core, is_core, largest_kept, least_core, needed_clauses
from onlyseen.desk import Desk
from onlyseen.easy import by_chains, chains, chains_hold, is_plain, is_twos, least_true, sums_answers, sums_hold
from onlyseen.live import Live
from onlyseen.middles import is_middle, is_so, middle
from onlyseen.nets import fill, fills_many, net_saying, outs_at
from onlyseen.reading import read_clause, read_saying
from onlyseen.refutations import refutes, tells, trimmed, used
from onlyseen.sayings import copies, is_answers, is_saying, letters_at, plays, seen
from onlyseen.settling import against, first_answers, follows, has_answers, settle
from onlyseen.shorter import after_cut, answers_back, cuts, refutation_back, shorter
from onlyseen.sights import could_see, idle, idle_holds, idle_paper, least_sights, thinned, with_sight, without_sight
from onlyseen.texts import show_answers, show_clause, show_saying, show_steps
from tests import oracle, writing
from tests.guard import Timed
from tests.kinds import goal_for, plain_saying, planted_sums, some_net, twos_saying
from tests.samples import SAYINGS, great_sayings, parity_sayings, some_sayings, tight_sayings

F, T = False, True


def small_sayings():
    rng = random.Random(430)
    found = SAYINGS + some_sayings(431, 25, 10, 8) + tight_sayings(432, 50, 14, 14) + parity_sayings()[:1]
    found += [plain_saying(rng, 12, 12) for _ in range(15)] + [twos_saying(rng, 12, 14) for _ in range(15)]
    return found


def renamed(saying, names):
    """The saying with other names."""
    picks, owns, clauses = saying
    return (tuple(sorted(names[pick] for pick in picks)),
            tuple(sorted((names[own], tuple(sorted(names[pick] for pick in sight))) for own, sight in owns)),
            tuple(sorted(tuple(sorted((names[name], truth) for name, truth in clause)) for clause in clauses)))


def turned(saying, name):
    """The saying in which a name means its contrary."""
    return saying[:2] + (tuple(sorted(tuple(sorted((other, truth is not (other == name)) for other, truth in clause))
                                      for clause in saying[2])),)


def names_in(saying):
    return list(saying[0]) + [own[0] for own in saying[1]]


def live_of(saying):
    live = Live(*saying[:2])
    for clause in saying[2]:
        live.put(clause)
    return live


class Whole(Timed):

    def settle_all_ways(self, saying):
        """Whether a saying has answers; all that tells it is of one mind, and what is told is looked at."""
        kind, told = settle(saying)
        some = kind == "answers"
        desk = Desk()
        self.assert_same(desk.execute("saying " + show_saying(saying)), "ok")
        live = live_of(saying)
        self.assert_same([has_answers(saying), live.has_answers(), live.settle()], [some, some, (kind, told)])
        first = first_answers(saying)
        every = tuple(range(len(saying[2])))
        self.assertIs(is_core(saying, every), not some)
        if some:
            self.assert_same([holds(saying, told), holds(saying, first), broken_at(saying, told)], [T, T, None])
            self.assert_same(desk.execute("settle"), "answers " + show_answers(saying, told))
            self.assert_same(needed_clauses(saying) if len(every) <= 12 else every, every)
        else:
            self.assert_same([refutes(saying, told), first], [T, None])
            self.assert_same(desk.execute("settle"), f"refuted {len(told)}")
            self.assertEqual(len(show_steps(saying, told).split(", ")), len(told))
            self.assert_same(tells(saying, told)[-1], ())
            self.assertIs(is_core(saying, used(saying, told)), T)
            self.assertIs(refutes(saying, trimmed(saying, told)), T)
        return some

    def test_settled_in_all_ways(self):
        met = [0, 0]
        for saying in small_sayings() + great_sayings(433, 10) + parity_sayings():
            some = self.settle_all_ways(saying)
            met[some] += 1
            if len(copies(saying)) <= 16:
                self.assertIs(many(saying) > 0, some)
            if is_plain(saying):
                self.assertIs(least_true(saying) is not None, some)
            if is_twos(saying):
                self.assertIs(by_chains(saying) is not None, some)
                self.assertIs(chains(saying) is None, some)
                self.assertIs(some or chains_hold(saying, chains(saying)), T)
        self.assertGreater(min(met), 30)

    def test_shorter_and_led_back(self):
        met = [0, 0]
        for saying in small_sayings() + great_sayings(434, 8) + parity_sayings():
            left, done = shorter(saying)
            self.assertIs(is_saying(left), T)
            self.assert_same(read_saying(show_saying(left)), left)
            some = self.settle_all_ways(left)
            self.assertIs(has_answers(saying), some)
            kind, told = live_of(left).settle()
            if some:
                self.assertIs(holds(saying, answers_back(saying, done, told)), T)
            else:
                back = refutation_back(saying, done, told)
                self.assertIs(refutes(saying, back), T)
                self.assertEqual(len(back), len(told))
                self.assertIs(refutes(saying, trimmed(saying, back)), T)
                self.assertIs(is_core(saying, used(saying, back)), T)
            met[some] += bool(done)
        self.assertGreater(min(met), 15)

    def test_renamed(self):
        rng = random.Random(435)
        for saying in small_sayings() + great_sayings(436, 4):
            old = names_in(saying)
            new = rng.sample(["own", "pick", "a", "x", "zzzzzzzz", "put", "saying", "b", "on", "text", "y", "many", "q", "r"],
                             len(old))
            other = renamed(saying, dict(zip(old, new)))
            self.assertIs(has_answers(other), has_answers(saying))
            self.assert_same(idle(other), sorted((dict(zip(old, new))[own], dict(zip(old, new))[pick])
                                                 for own, pick in idle(saying)))
            self.assertEqual(len(cuts(other)), len(cuts(saying)))
            self.assert_same(live_of(other).saying, other)
            if len(copies(saying)) <= 16:
                self.assertEqual(many(other), many(saying))
            self.assert_same([is_plain(other), is_twos(other)], [is_plain(saying), is_twos(saying)])
            # In the same sequence: all is told in the same sequence, too.
            alike = dict(zip(sorted(old), sorted(new)))
            other = renamed(saying, alike)
            self.assert_same(shorter(other)[0], renamed(shorter(saying)[0], alike))
            self.assert_same(first_answers(other), first_answers(saying))
            self.assert_same(could_see(other), [(alike[own], alike[pick]) for own, pick in could_see(saying)])
            self.assert_same(settle(other)[0], settle(saying)[0])
            if len(saying[2]) <= 10:
                self.assert_same([needed_clauses(other), largest_kept(other)], [needed_clauses(saying), largest_kept(saying)])

    def test_turned(self):
        for saying in small_sayings() + great_sayings(437, 4):
            for name in names_in(saying):
                other = turned(saying, name)
                self.assertIs(is_saying(other), T)
                self.assert_same(turned(other, name), saying)
                self.assertIs(has_answers(other), has_answers(saying))
                self.assert_same([idle(other), could_see(other)], [idle(saying), could_see(saying)])
                self.assert_same([is_twos(other), len(cuts(other))], [is_twos(saying), len(cuts(saying))])
                if len(copies(saying)) <= 14:
                    self.assertEqual(many(other), many(saying))
                    if has_answers(saying) and name not in saying[0]:
                        self.assert_same([(who, what, truth is not (who == name)) for who, what, truth in fixed(other)],
                                         fixed(saying))

    def test_live_sayings_beside_desks_and_functions(self):
        rng = random.Random(438)
        for saying in small_sayings() + great_sayings(439, 3):
            live, desk = live_of(saying), Desk()
            desk.execute("saying " + show_saying(saying))
            for cut in [cut for cut in cuts(saying) if cut[0] == "swallow"][:1]:
                live.take(cut[1])
                self.assert_same(desk.execute("take " + show_clause(cut[1])), "ok")
                self.assert_same(live.saying, after_cut(saying, cut))
                self.assertIs(follows(live.saying, cut[1]) if live.has_answers() else T, T)
            for name, pick in live.idle()[:2]:
                self.assertIs(idle_holds(live.saying, name, pick, idle_paper(live.saying, name, pick)), T)
                less = without_sight(live.saying, name, pick)
                live.hide(name, pick)
                self.assert_same(desk.execute(f"hide {name} {pick}"), "ok")
                self.assert_same(live.saying, less)
                self.assertIs(live.has_answers(), has_answers(saying))
            self.assert_same(read_saying(desk.execute("text")), live.saying)
            self.assert_same(desk.execute("idle"), ", ".join(f"{name} {pick}" for name, pick in live.idle()) or "-")
            for name, pick in could_see(live.saying)[:2]:
                if with_sight(live.saying, name, pick) != live.saying and rng.random() < 0.5:
                    live.show(name, pick)
                    desk.execute(f"show {name} {pick}")
                    self.assertIs(live.has_answers(), has_answers(saying))
            twin = live.twin()
            while twin.story:
                word = twin.story[-1][0]
                self.assert_same([twin.back(), desk.execute("back")], [word, word])
                self.assert_same(read_saying(desk.execute("text")), twin.saying)
            self.assertIs(live == live.twin(), T)

    def test_cores_at_a_desk_and_middles_of_them(self):
        met = 0
        for saying in small_sayings():
            if not has_answers(saying) and len(saying[2]) <= 24:
                desk = Desk()
                desk.execute("saying " + show_saying(saying))
                found = core(saying)
                clauses = [read_clause(text) for text in desk.execute("core").split(" ; ")]
                self.assert_same(clauses, [saying[2][index] for index in found])
                less = saying[:2] + (tuple(clauses),)
                self.assertIs(has_answers(less), F)
                for at in range(len(clauses)):
                    self.assertIs(has_answers(less[:2] + (less[2][:at] + less[2][at + 1:],)), T)
                if len(saying[2]) <= 12:
                    self.assertLessEqual(len(least_core(saying)), len(found))
                first = tuple(range(0, len(clauses), 2))
                told = middle(less, first)
                self.assertIs(is_middle(less, first, told), T)
                half = less[:2] + (tuple(clauses[index] for index in first),)
                for number in range(3):
                    by = nth(half, number) if len(copies(half)) <= 24 else None
                    if by is not None:
                        self.assertIs(is_so(less, told, by), T)
                met += 1
        self.assertGreater(met, 30)

    def test_numbers_of_answers(self):
        for saying in small_sayings():
            if len(copies(saying)) <= 14 and has_answers(saying):
                last = many(saying) - 1
                by = nth(saying, last)
                self.assert_same([place(saying, by), nth(saying, last + 1), nth(saying, 0)], [last, None, first_answers(saying)])
                row = [value_of(saying, by, name, at) for name, what in copies(saying)
                       for at in [next(at for at in plays(saying) if seen(saying, name, at) == what)]]
                self.assert_same(answers_with(saying, row), by)
                self.assertIs(is_answers(saying, by), T)
                for clause in saying[2]:
                    self.assertIs(follows(saying, clause), T)
                    told = against(saying, clause[1:])
                    if told is not None:
                        marked = letters_at(saying, clause[1:], told[1])
                        self.assertFalse(any(is_so(saying, ("letter",) + one, told[0]) for one in marked))

    def test_sights_and_answers(self):
        for saying in small_sayings():
            less = thinned(saying)
            self.assertIs(self.settle_all_ways(less), has_answers(saying))
            if has_answers(saying) and sum(len(sight) for _, sight in saying[1]) <= 8:
                sights = least_sights(saying)
                owns = tuple((own[0], sight) for own, sight in zip(saying[1], sights))
                self.assertIs(has_answers((saying[0], owns, saying[2])), T)
                self.assertLessEqual(sum(len(sight) for sight in sights), sum(len(sight) for _, sight in less[1]))

    def test_nets_as_sayings(self):
        rng = random.Random(440)
        met = [0, 0]
        for number in range(80):
            net = some_net(rng, rng.choice((1, 2, 2, 3)), 6, 2, 2)
            goal = goal_for(rng, net) if number % 2 else some_net(rng, len(net[0]), 3, 0, 2)
            saying = net_saying(net, goal)
            self.assert_same(read_saying(show_saying(saying)), saying)
            some = self.settle_all_ways(saying)
            met[some] += 1
            kind, told = fill(net, goal)
            self.assertEqual(kind, "filled" if some else "barred")
            if not some:
                self.assertIs(refutes(saying, told), T)
                left, done = shorter(saying)
                self.assertIs(refutes(saying, refutation_back(saying, done, settle(left)[1])), T)
            else:
                for at in plays(saying):
                    self.assert_same(outs_at(net, told, at), outs_at(goal, (), at))
            if len(copies(saying)) <= 24:
                desk = Desk()
                desk.execute("saying " + show_saying(saying))
                self.assert_same(desk.execute("many"), str(fills_many(net, goal)))
        self.assertGreater(min(met), 15)

    def test_sums_as_sayings(self):
        """A row of few sums as clauses: each sum bars the truths of its names that are not so."""
        met = [0, 0]
        for picks, owns, sums in planted_sums(441, 60, 3):
            sums = sums[:4]
            clauses = set()
            for names, odd in sums[:2]:
                if len(names) <= 5:
                    for number in range(2 ** len(names)):
                        truths = [bool(number >> k & 1) for k in range(len(names))]
                        if sum(truths) % 2 != odd:
                            clauses.add(tuple((name, not truth) for name, truth in zip(names, truths)))
            row = (picks, owns, tuple(part for part in sums[:2] if len(part[0]) <= 5))
            saying = (picks, owns, tuple(sorted(clauses)))
            self.assertIs(is_saying(saying), T)
            found = sums_answers(row)
            self.assertIs(found is not None, has_answers(saying))
            met[found is not None] += 1
            if found is not None:
                self.assertIs(holds(saying, found), T)
                self.assertIs(sums_hold(row, first_answers(saying)), T)
        self.assertGreater(met[1], 20)

    def test_cuts_of_live_sayings(self):
        rng = random.Random(442)
        for saying in small_sayings()[::2]:
            live = live_of(saying)
            found = cuts(live.saying)
            if found:
                cut = rng.choice(found)
                left = after_cut(live.saying, cut)
                self.assert_same(read_saying(show_saying(left)), left)
                self.assertIs(Live(*left[:2]).saying[:2] == left[:2], T)
                self.assertIs(live_of(left).has_answers(), live.has_answers())
                self.assert_same(writing.of_saying(left), show_saying(left))
        self.assertIs(oracle.saying(live.saying), T)
