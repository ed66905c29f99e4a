"""Point 33: nets, goals, the saying of a net, filling."""

import itertools
import random

from onlyseen.errors import InvalidGoal, InvalidNet, InvalidPlay, InvalidTables
from onlyseen.nets import fill, fills_many, is_net, net_saying, outs_at
from tests import checker, oracle, second
from tests.guard import Guarded
from tests.kinds import goal_for, some_net
from tests.samples import mutants, strangers

F, T = False, True

# Of the document, point 33.
NET = (("x", "y"), (("a", "blank", ("x",)), ("b", "blank", ("y",)), ("c", "unlike", ("a", "b"))), ("c",))
UNLIKE = (("x", "y"), (("c", "unlike", ("x", "y")),), ("c",))
BOTH = (("x", "y"), (("c", "both", ("x", "y")),), ("c",))

# Blanks that do not stand as their names compare; one is seen ahead of the other one, which sees another input.
TURNED = (("x", "y"), (("z", "blank", ("x", "y")), ("n", "not", ("z",)), ("a", "blank", ())), ("n", "a", "z"))
NO_INPUTS = ((), (("b", "blank", ()), ("a", "blank", ()), ("c", "both", ("a", "b"))), ("c", "a"))
NO_GATES = (("x", "y"), (), ("y", "x", "y"))
TWELVE = (("i", "j", "k"), (
    ("q", "blank", ("i", "k")), ("a", "both", ("q", "j")), ("b", "either", ("a", "a")), ("c", "unlike", ("b", "i")),
    ("d", "not", ("c",)), ("e", "blank", ("i", "j", "k")), ("f", "both", ("e", "d")), ("g", "either", ("f", "k")),
    ("h", "not", ("g",)), ("l", "unlike", ("h", "q")), ("m", "both", ("l", "e")), ("n", "either", ("m", "j")),
), ("n", "h", "i"))

NETS = [NET, UNLIKE, BOTH, TURNED, NO_INPUTS, NO_GATES, TWELVE]


def wrong_nets():
    """Objects that are nearly nets."""
    def gates(*those):
        return (("x", "y"), those, ("x",))

    return [
        list(NET), NET[:2], NET + ((),), (["x", "y"],) + NET[1:], (NET[0], list(NET[1]), NET[2]), NET[:2] + (["c"],),
        NET[:2] + ((),), NET[:2] + ("c",), NET[:2] + (("d",),), NET[:2] + (("c", 1),), NET[:2] + (("c", ["c"]),),
        (("y", "x"),) + NET[1:], (("x", "x"),) + NET[1:], (("w", "x", "y", "z"),) + NET[1:], (("x", 1), (), ("x",)),
        TWELVE[:1] + (TWELVE[1] + (("o", "not", ("n",)),),) + TWELVE[2:], ((), (), ("x",)), ((), (), ()),
        gates(("a", "and", ("x", "y"))), gates(("a", "Both", ("x", "y"))), gates(("a", "", ("x", "y"))),
        gates(("a", "both", ("x",))), gates(("a", "both", ("x", "y", "x"))), gates(("a", "not", ("x", "y"))),
        gates(("a", "not", ())), gates(("a", "not", "x")), gates(("a", "not", ["x"])), gates(("a", "not", ("a",))),
        gates(("a", "not", ("b",)), ("b", "not", ("x",))), gates(("a", "both", ("x", "z"))), gates(("x", "not", ("y",))),
        gates(("a", "not", ("x",)), ("a", "not", ("y",))), gates(("A", "not", ("x",))), gates(("", "not", ("x",))),
        gates(("aaaaaaaaa", "not", ("x",))), gates((1, "not", ("x",))), gates(["a", "not", ("x",)]), gates(("a", "not")),
        gates(("a", "not", ("x",), ())), gates(("a", None, ("x",))), gates(("a", ["not"], ("x",))), gates(None),
        gates(("a", "blank", ("y", "x"))), gates(("a", "blank", ("x", "x"))), gates(("a", "blank", ("z",))),
        gates(("a", "blank", ["x"])), gates(("a", "blank", "x")), gates(("a", "blank", (1,))), gates(("a", "blank",)),
        gates(("a", "not", ("x",)), ("b", "blank", ("a",))), gates(("a", "not", (None,))), gates(("a", "not", ({},))),
        gates(("a", "blank", ()), ("b", "blank", ()), ("c", "blank", ())), gates(([], "blank", ())),
    ]


class IsNet(Guarded):

    def test_nets(self):
        for net in NETS:
            self.assertIs(is_net(net), T)
            self.assertIs(is_net(value=net), T)
        for net in drawn_nets(340, 60):
            self.assertIs(is_net(net), T)

    def test_any_object(self):
        for value in strangers() + wrong_nets():
            self.assertIs(is_net(value), F)
        for net in (NET, TURNED, NO_INPUTS):
            for value in mutants(net):
                self.assertIs(is_net(value), second.net(value))


def drawn_nets(seed, many, gates=7):
    """Nets with no input, one, two and three, no blank, one and two."""
    rng = random.Random(seed)
    found = []
    for number in range(many):
        inputs = rng.choice((1, 1, 2, 2, 2, 3)) if number % 8 else 0
        found.append(some_net(rng, inputs, rng.randint(inputs == 0, gates), rng.randint(0, 2), rng.randint(1, 3)))
    return found


class Outs(Guarded):

    def test_kinds_of_gates(self):
        for kind, wanted in [("both", [F, F, F, T]), ("either", [F, T, T, T]), ("unlike", [F, T, T, F])]:
            for parts, truths in [(("x", "y"), wanted), (("x", "x"), [wanted[0], wanted[0], wanted[3], wanted[3]])]:
                net = (("x", "y"), (("c", kind, parts),), ("c", "x", "c"))
                for at, truth in zip(itertools.product([F, T], repeat=2), truths):
                    self.assert_same(outs_at(net, (), at), (truth, at[0], truth))
        net = (("x",), (("a", "not", ("x",)),), ("a",))
        self.assert_same([outs_at(net, (), (F,)), outs_at(net, (), (T,))], [(T,), (F,)])

    def test_at_all_plays(self):
        rng = random.Random(341)
        for net in NETS + drawn_nets(342, 200):
            every = second.every_tables(net)
            for by in rng.sample(every, min(4, len(every))):
                for at in itertools.product([F, T], repeat=len(net[0])):
                    self.assert_same(outs_at(net, by, at), second.outs(net, by, at))
                    self.assert_same(outs_at(play=at, tables=by, net=net), second.outs(net, by, at))

    def test_blanks_in_the_sequence_of_the_gates(self):
        by = ((F, T, F, F), (T,))
        self.assert_same([outs_at(TURNED, by, (F, F)), outs_at(TURNED, by, (T, F))], [(T, T, F), (F, T, T)])
        self.assert_same([outs_at(TURNED, by, (F, T)), outs_at(TURNED, by, (T, T))], [(T, T, F), (T, T, F)])
        self.assert_refused(InvalidTables, by[::-1], lambda: outs_at(TURNED, by[::-1], (F, F)))
        self.assert_same(outs_at(NO_INPUTS, ((F,), (T,)), ()), (F, T))
        self.assert_same(outs_at(NO_INPUTS, ((T,), (F,)), ()), (F, F))

    def test_refused_in_turn(self):
        for net, by, at in [(NET, ((F, T), (T, T)), (T, F)), (BOTH, (), (T, F)), (NO_INPUTS, ((F,), (T,)), ())]:
            for wrong in strangers() + list(mutants(by)) + [list(by), by + ((F,),), by[1:] if by else [()]]:
                if not second.tables(net, wrong):
                    for other in (at, None, [], (1,)):
                        self.assert_refused(InvalidTables, wrong, lambda: outs_at(net, wrong, other))
            for wrong in strangers() + list(mutants(at)) + [list(at), at + (F,), (1,) * len(at)]:
                if not second.inputs_at(net, wrong):
                    self.assert_refused(InvalidPlay, wrong, lambda: outs_at(net, by, wrong))


class Filling(Guarded):

    def check(self, net, goal):
        """All that is told of a net and its goal, against a going through all tables; whether it can be filled."""
        every = second.fills(net, goal)
        saying = net_saying(net, goal)
        self.assert_same(saying, second.net_saying(net, goal))
        self.assertIs(oracle.saying(saying), T)
        kind, told = fill(net, goal)
        self.assert_same(fills_many(net, goal), len(every))
        if every:
            self.assertEqual(kind, "filled")
            self.assertIs(second.tables(net, told), T)
            self.assertIn(told, every)
        else:
            self.assertEqual(kind, "barred")
            self.assertIs(checker.refutes(saying, told), T)
        return bool(every)

    def test_going_through_all_tables(self):
        rng = random.Random(343)
        met = [0, 0]
        for number, net in enumerate(drawn_nets(344, 400)):
            if net[0] and len(second.every_tables(net)) <= 256:
                inputs, outs = len(net[0]), len(net[2])
                goal = goal_for(rng, net) if number % 2 else some_net(rng, inputs, rng.randint(0, 6), 0, outs)
                met[self.check(net, goal)] += 1
        self.assertGreater(min(met), 60)

    def test_the_examples_and_edges(self):
        self.assertIs(self.check(NET, UNLIKE), T)
        self.assertIs(self.check(NET, BOTH), F)
        self.assertIs(self.check(UNLIKE, UNLIKE), T)
        self.assertIs(self.check(UNLIKE, BOTH), F)
        self.assertIs(self.check(NO_GATES, NO_GATES), T)
        self.assertIs(self.check(NO_GATES, (("x", "y"), (), ("x", "x", "y"))), F)
        self.assert_same(fill(UNLIKE, UNLIKE), ("filled", ()))
        self.assert_same(net_saying(UNLIKE, UNLIKE), (("x", "y"), (), ()))
        # An out twice, and a blank of nothing.
        net = (("x",), (("b", "blank", ()),), ("b", "b"))
        self.assertIs(self.check(net, (("y",), (("n", "not", ("y",)), ("t", "either", ("n", "y"))), ("t", "t"))), T)
        self.assertIs(self.check(net, (("y",), (("n", "not", ("y",)), ("t", "either", ("n", "y"))), ("t", "y"))), F)
        self.assertIs(self.check(net, (("y",), (), ("y", "y"))), F)

    def test_inputs_and_outs_go_by_place(self):
        goal = (("a", "b"), (("x", "not", ("a",)), ("y", "either", ("x", "b"))), ("y",))
        net = (("x", "y"), (("z", "blank", ("x", "y")),), ("z",))
        self.assert_same(fill(net, goal), ("filled", ((T, F, T, T),)))
        goal = (("m", "z"), (("n", "not", ("m",)),), ("n", "m", "n"))
        net = (("a", "b"), (("d", "blank", ("a",)), ("c", "blank", ("a", "b"))), ("c", "d", "c"))
        self.assert_same(fill(net, goal), ("filled", ((F, T), (T, F, T, F))))
        self.assert_same(net_saying(net, goal)[1], (("c", ("a", "b")), ("d", ("a",))))
        self.assertIs(self.check(net, goal), T)

    def test_the_saying_of_a_net(self):
        net = (("x",), (("b", "blank", ("x",)), ("a", "blank", ())), ("a", "b"))
        goal = (("x",), (), ("x", "x"))
        self.assert_same(net_saying(net, goal), (("x",), (("a", ()), ("b", ("x",))), (
            (("a", F), ("b", F), ("x", T)), (("a", F), ("b", T), ("x", F)), (("a", F), ("b", T), ("x", T)),
            (("a", T), ("b", F), ("x", F)), (("a", T), ("b", F), ("x", T)), (("a", T), ("b", T), ("x", F)),
        )))

    def test_the_greatest(self):
        rng = random.Random(345)
        met = [0, 0]
        for number in range(60):
            net = some_net(rng, 3, 12, 2, rng.randint(1, 3))
            full = tuple((name, kind, net[0] if kind == "blank" else parts) for name, kind, parts in net[1])
            net = (net[0], full, net[2])
            goal = goal_for(rng, net) if number % 2 else some_net(rng, 3, 12, 0, len(net[2]))
            saying = net_saying(net, goal)
            self.assert_same(saying, second.net_saying(net, goal))
            kind, told = fill(net, goal)
            every = oracle.Truths(saying).many()
            self.assert_same(fills_many(net, goal), every)
            if every:
                plays = list(itertools.product([F, T], repeat=3))
                self.assert_same([second.outs(net, told, at) for at in plays], [second.outs(goal, (), at) for at in plays])
            else:
                self.assertEqual(kind, "barred")
                self.assertIs(checker.refutes(saying, told), T)
            met[every > 0] += 1
        self.assertGreater(min(met), 12)
        self.assertIs(self.check(TWELVE, (("a", "b", "c"), (("n", "not", ("b",)),), ("b", "n", "a"))), F)

    def test_goals_that_are_none(self):
        for net in (NET, UNLIKE, TURNED, NO_GATES):
            right = (("p", "q"), (("n", "not", ("p",)),), ("n", "q", "p")[:len(net[2])])
            self.assertIs(fill(net, right)[0] in ("filled", "barred"), T)
            wrongs = strangers() + wrong_nets() + list(mutants(right)) + [
                NET, TURNED, (("p",), (), ("p",) * len(net[2])), (("p", "q", "r"), (), ("p",) * len(net[2])),
                (("p", "q"), (), ("p",) * (len(net[2]) + 1)), (("p", "q"), (("b", "blank", ()),), ("p",) * len(net[2])),
                list(right), [list(part) for part in right],
            ]
            for wrong in wrongs:
                if not second.goal(net, wrong):
                    for function in (net_saying, fill, fills_many):
                        self.assert_refused(InvalidGoal, wrong, lambda: function(net, wrong))
        for wrong in strangers() + wrong_nets():
            for function in (net_saying, fill, fills_many):
                self.assert_refused(InvalidNet, wrong, lambda: function(goal=None, net=wrong))

    def test_a_net_without_inputs_has_no_goal(self):
        for goal in (NO_INPUTS, UNLIKE, ((), (), ()), ((), (("a", "not", ("a",)),), ("a", "a"))):
            self.assert_refused(InvalidGoal, goal, lambda: fill(NO_INPUTS, goal))
