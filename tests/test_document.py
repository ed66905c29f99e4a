"""The examples of the document answer as they are printed."""

import doctest

from tests.guard import Guarded

SAYINGS = '''
>>> from onlyseen.sayings import copies, is_saying, letters_at, plays, seen
>>> saying = (("x", "y"), (("a", ("x",)), ("b", ("y",))), ((("a", False), ("b", True), ("x", False)), (("a", True), ("x", False), ("y", True)), (("b", False), ("y", False))))
>>> [is_saying(saying), plays(saying)[1], seen(saying, "b", (True, False)), copies(saying)]
[True, (False, True), (False,), [('a', (False,)), ('a', (True,)), ('b', (False,)), ('b', (True,))]]
>>> letters_at(saying, (("a", True), ("x", False), ("y", True)), (True, False))
(('a', (True,), True),)
'''

ANSWERS = '''
>>> from onlyseen.answers import broken_at, fixed, holds, many, nth
>>> saying = (("x", "y"), (("a", ("x",)), ("b", ("y",))), ((("a", False), ("x", True)), (("a", True), ("b", True), ("x", False)), (("b", False), ("y", True))))
>>> [many(saying), nth(saying, 0), holds(saying, ((False, True), (False, False))), broken_at(saying, ((False, False), (False, False))), fixed(saying)]
[2, ((False, True), (False, False)), True, (1, (True, False)), [('a', (False,), False), ('a', (True,), True), ('b', (False,), False)]]
'''

REFUTATIONS = '''
>>> from onlyseen.refutations import refutes, tells, used
>>> saying = (("x", "y"), (("a", ("y",)),), ((("a", False), ("x", True)), (("a", True), ("x", False))))
>>> steps = (("play", 0, (False, True)), ("play", 1, (True, True)), ("join", 1, 0, ("a", (True,))))
>>> [tells(saying, steps), refutes(saying, steps), refutes(saying, steps[:2]), used(saying, steps)]
[[(('a', (True,), False),), (('a', (True,), True),), ()], True, False, (0, 1)]
'''

SETTLING = '''
>>> from onlyseen.settling import first_answers, follows, has_answers, settle
>>> saying = (("x", "y"), (("a", ("y",)),), ((("a", False), ("x", True)), (("a", True), ("x", False))))
>>> other = (("x", "y"), (("a", ("x",)),), saying[2])
>>> [settle(saying)[0], settle(other), has_answers(saying), first_answers(other), follows(other, (("a", True), ("x", False)))]
['refutation', ('answers', ((False, True),)), False, ((False, True),), True]
'''

CORES = '''
>>> from onlyseen.cores import core, is_core, largest_kept, least_core, needed_clauses
>>> saying = (("x",), (("a", ()),), ((("a", False), ("x", True)), (("a", True), ("x", False)), (("a", True), ("x", True))))
>>> [is_core(saying, (0, 1)), least_core(saying), needed_clauses(saying), largest_kept(saying)]
[True, (0, 1), (0,), [(0,), (1, 2)]]
'''

SIGHTS = '''
>>> from onlyseen.sights import hangs, idle, idle_holds, least_sights, reached, thinned
>>> saying = (("x", "y"), (("a", ("x", "y")), ("b", ("y",))), ((("a", False), ("x", True)), (("a", True), ("x", False)), (("b", True), ("y", False))))
>>> [reached(saying, "x", True), hangs(saying, "a", "x"), idle(saying), least_sights(saying), thinned(saying)[1]]
[(('a', False),), True, [('a', 'y'), ('b', 'y')], (('x',), ()), (('a', ('x',)), ('b', ()))]
>>> [idle_holds(saying, "b", "y", ((), (("b", True),))), idle_holds(saying, "b", "y", ((), ()))]
[True, False]
'''

EASY = '''
>>> from onlyseen.easy import chains_hold, is_plain, is_twos, least_true, sums_answers, sums_paper, sums_paper_holds
>>> saying = (("x",), (("a", ()), ("b", ("x",))), ((("a", False), ("b", True)), (("a", True), ("x", False))))
>>> [is_plain(saying), is_twos(saying), least_true(saying)]
[True, True, ((True,), (True, True))]
>>> other = (("x",), (("a", ()),), ((("a", False), ("x", True)), (("a", True), ("x", False))))
>>> [chains_hold(other, ((("a", (), True), ("a", (), False)), (("a", (), False), ("a", (), True)))), sums_answers((("x", "y"), (("a", ("x",)), ("b", ("y",))), ((("a", "b", "x", "y"), True),))) is None]
[True, False]
>>> row = (("x", "y"), (("a", ("x",)),), ((("a", "y"), False),))
>>> [sums_answers(row), sums_paper(row), sums_paper_holds(row, ("x", (0,)))]
[None, ('y', (0,)), False]
'''

NETS = '''
>>> from onlyseen.nets import fill, fills_many, outs_at
>>> net = (("x", "y"), (("a", "blank", ("x",)), ("b", "blank", ("y",)), ("c", "unlike", ("a", "b"))), ("c",))
>>> unlike = (("x", "y"), (("c", "unlike", ("x", "y")),), ("c",))
>>> both = (("x", "y"), (("c", "both", ("x", "y")),), ("c",))
>>> [outs_at(net, ((False, True), (True, True)), (True, False)), fills_many(net, unlike), fill(net, both)[0]]
[(False,), 2, 'barred']
'''

MIDDLES = '''
>>> from onlyseen.middles import is_middle, is_so, middle
>>> saying = (("x",), (("a", ()),), ((("a", False), ("x", True)), (("a", True), ("x", False))))
>>> [is_middle(saying, (0,), ("letter", "a", (), False)), is_middle(saying, (0,), ("true",)), is_middle(saying, (0,), middle(saying, (0,))), is_so(saying, ("letter", "a", (), False), ((True,),))]
[True, False, True, False]
'''

SHORTER = '''
>>> from onlyseen.refutations import refutes
>>> from onlyseen.shorter import cuts, refutation_back, shorter
>>> saying = (("x", "y"), (("a", ("y",)), ("b", ())), ((("a", False), ("x", True)), (("a", True), ("x", False)), (("b", True), ("y", True))))
>>> [cuts(saying), shorter(saying)[0]]
[[('pure', 'b', True), ('reduce', (('a', False), ('x', True)), 'x'), ('reduce', (('a', True), ('x', False)), 'x'), ('reduce', (('b', True), ('y', True)), 'y')], (('x', 'y'), (('a', ('y',)),), ((('a', False),), (('a', True),)))]
>>> short, done = shorter(saying)
>>> refutes(saying, refutation_back(saying, done, (("play", 0, (False, True)), ("play", 1, (False, True)), ("join", 1, 0, ("a", (True,))))))
True
'''

TEXTS = '''
>>> from onlyseen.texts import show_answers, show_saying
>>> saying = (("x",), (("a", ()), ("b", ("x",))), ((("a", False), ("b", True)), (("a", True), ("x", False))))
>>> [show_saying(saying), show_answers(saying, ((True,), (False, True)))]
['pick x ; own a: - ; own b: x ; -a b ; a -x', 'a: 1 ; b: 01']
'''

DESK = '''
>>> from onlyseen.desk import Desk
>>> desk = Desk()
>>> [desk.execute(line) for line in ["saying pick x ; own a: - ; -a x ; a -x", "many", "core", "show a x", "settle", "idle", "back", "text"]]
['ok', '0', '-a x ; a -x', 'ok', 'answers a: 01', '-', 'show', 'pick x ; own a: - ; -a x ; a -x']
'''


class Examples(Guarded):

    def check(self, text, name, examples):
        told = []
        test = doctest.DocTestParser().get_doctest(text, {}, name, None, 0)
        result = doctest.DocTestRunner(verbose=False).run(test, out=told.append)
        self.assertEqual((result.failed, result.attempted), (0, examples), "".join(told))

    def test_point_10(self):
        self.check(SAYINGS, "point 10", 4)

    def test_point_11(self):
        self.check(ANSWERS, "point 11", 3)

    def test_point_12(self):
        self.check(REFUTATIONS, "point 12", 4)

    def test_point_13(self):
        self.check(SETTLING, "point 13", 4)

    def test_point_14(self):
        self.check(CORES, "point 14", 3)

    def test_point_31(self):
        self.check(SIGHTS, "point 31", 4)

    def test_point_32(self):
        self.check(EASY, "point 32", 7)

    def test_point_33(self):
        self.check(NETS, "point 33", 5)

    def test_point_34(self):
        self.check(MIDDLES, "point 34", 3)

    def test_point_35(self):
        self.check(SHORTER, "point 35", 6)

    def test_point_37(self):
        self.check(TEXTS, "point 37", 3)

    def test_point_39(self):
        self.check(DESK, "point 39", 3)
