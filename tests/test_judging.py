import unittest

from selfsay.claims import claim_of
from selfsay.errors import SayError, TooMany
from selfsay.judging import alike, follows, judged
from selfsay.sayings import yes
from selfsay.searching import searched
from selfsay.showings import shows
from selfsay.texts import read
from selfsay.trees import Tree
from tests.samples import NO, P, Q, R, plain_worth, small_sayings, some_sayings, some_trees, spoil, wrapped

A = ("shown", P)


class Judging(unittest.TestCase):
    def assert_refused(self, asked, *handed):
        with self.assertRaises(SayError) as caught:
            asked(*handed)
        self.assertIs(type(caught.exception), TooMany)

    def test_judged(self):
        for text, end in (("(p>p)", "showing"), ("p", "tree"), ("0", "tree"), ("~0", "showing"),
                          ("([([p]>p)]>[p])", "showing"), ("([p]>p)", "tree"), ("[[0]]", "tree")):
            saying = read(text)
            told = judged(saying)
            self.assertEqual(told[0], end)
            if end == "showing":
                self.assertIs(shows(told[1], ([], [saying])), True)
            else:
                self.assertIs(Tree(told[1]).worth(saying, 0), False)

    def test_judged_as_searched(self):
        for saying in small_sayings(3):
            self.assertEqual(judged(saying), searched(([], [saying])))

    def test_judged_refused(self):
        self.assertEqual(judged(wrapped("not", 39, P))[0], "tree")
        self.assertEqual(judged(wrapped("shown", 6, P))[0], "tree")
        self.assert_refused(judged, wrapped("not", 40, P))
        self.assert_refused(judged, wrapped("shown", 7, P))

    def assert_follows(self, givens, saying, end):
        told = follows(givens, saying)
        self.assertEqual(told[0], end, (givens, saying))
        claim = (sorted(set(givens)), [saying])
        if end == "showing":
            self.assertIs(shows(told[1], claim), True)
        else:
            tree = Tree(told[1])
            self.assertEqual([tree.worth(given, 0) for given in givens], [True] * len(givens))
            self.assertIs(tree.worth(saying, 0), False)
        return told

    def test_follows(self):
        one, other = ("if", P, Q), ("if", Q, R)
        for givens in ([one, other, P], [P, other, one], [other, P, one, other], [P, P, P, one, other]):
            self.assert_follows(givens, R, "showing")
        self.assert_follows([one, other, one], R, "tree")
        self.assert_follows([Q, P], ("and", P, Q), "showing")
        self.assert_follows([NO], P, "showing")
        self.assert_follows([P], NO, "tree")
        self.assert_follows([A], ("shown", A), "showing")
        self.assert_follows([P], A, "tree")

    def test_follows_from_nothing(self):
        for saying in small_sayings(2):
            self.assertEqual(follows([], saying), judged(saying))
        self.assert_follows([], yes(), "showing")
        self.assert_follows([], P, "tree")

    def test_order_and_doubles_make_no_other_answer(self):
        givens = [A, ("or", P, Q), ("not", Q), R]
        told = follows(givens, ("and", P, A))
        self.assertEqual(follows(givens[::-1] + givens[1:3], ("and", P, A)), told)
        self.assertEqual(told, searched(claim_of(givens, [("and", P, A)])))

    def test_follows_refused(self):
        self.assert_follows([wrapped("not", 20, P)], wrapped("not", 18, Q), "tree")
        self.assert_refused(follows, [wrapped("not", 20, P)], wrapped("not", 19, Q))
        shown = [("shown", saying) for saying in (P, Q, R, NO, ("not", P), ("not", Q))]
        self.assert_follows(shown, ("shown", P), "showing")
        self.assert_refused(follows, shown, ("shown", ("not", R)))

    def test_givens_stay(self):
        givens = [Q, P, Q, ("or", R, P)]
        told = follows(givens, ("and", P, Q))
        self.assertEqual(givens, [Q, P, Q, ("or", R, P)])
        kept = repr(told)
        givens.clear()
        self.assertEqual(repr(told), kept)


class Alike(unittest.TestCase):
    def assert_alike(self, one, other, word=None):
        told = alike(one, other)
        self.assertIs(type(told), tuple)
        if word is not None:
            self.assertEqual(told[0], word, (one, other))
        if told[0] == "alike":
            self.assertEqual(len(told), 3)
            self.assertIs(shows(told[1], ([one], [other])), True)
            self.assertIs(shows(told[2], ([other], [one])), True)
        else:
            self.assertEqual((told[0], len(told)), ("unlike", 2))
            truths = [plain_worth(told[1], one, 0), plain_worth(told[1], other, 0)]
            self.assertEqual(sorted(truths), [False, True])
            Tree(told[1])
        return told[0]

    def test_alike(self):
        for one, other in (("(p&q)", "(q&p)"), ("~~p", "p"), ("(p>q)", "(~p|q)"), ("[(p&q)]", "([p]&[q])"),
                           ("[([p]>p)]", "[p]"), ("0", "(p&~p)"), ("[~[0]]", "[0]"), ("~[~[0]]", "~[0]")):
            self.assert_alike(read(one), read(other), "alike")
            self.assert_alike(read(other), read(one), "alike")

    def test_unlike(self):
        for one, other in (("p", "q"), ("p", "[p]"), ("(p|q)", "p"), ("p", "(p&q)"), ("[[0]]", "[0]"), ("0", "~0"),
                           ("[(p|q)]", "([p]|[q])"), ("[p]", "[[p]]"), ("p", "~p")):
            self.assert_alike(read(one), read(other), "unlike")
            self.assert_alike(read(other), read(one), "unlike")

    def test_alike_to_itself(self):
        for saying in small_sayings(3):
            self.assert_alike(saying, saying, "alike")

    def test_as_trees_tell(self):
        trees = [Tree(rooms) for rooms in some_trees(1, 20, 7)]
        words = []
        small = small_sayings(2) + some_sayings(2, 20, 4)
        for one in small:
            for other in small[::3]:
                words.append(self.assert_alike(one, other))
                if words[-1] == "alike":
                    for tree in trees:
                        self.assertEqual(tree.holds(one), tree.holds(other))
        self.assertGreater(words.count("alike"), 20)
        self.assertGreater(words.count("unlike"), 20)

    def test_refused(self):
        self.assert_alike(wrapped("not", 20, P), wrapped("not", 18, Q), "unlike")
        for one, other in ((wrapped("not", 20, P), wrapped("not", 19, Q)), (wrapped("not", 40, P), P),
                           (P, wrapped("not", 40, P)), (wrapped("shown", 4, P), wrapped("shown", 3, Q))):
            with self.assertRaises(SayError) as caught:
                alike(one, other)
            self.assertIs(type(caught.exception), TooMany)
        self.assert_alike(wrapped("shown", 3, P), wrapped("shown", 3, Q), "unlike")

    def test_the_askers_own(self):
        for one, other in ((("and", P, Q), ("and", Q, P)), (P, A)):
            told = alike(one, other)
            kept = repr(told)
            spoil(told)
            self.assertEqual(repr(alike(one, other)), kept)
        told = judged(("or", P, ("not", P)))
        kept = repr(told)
        spoil(told)
        self.assertEqual(repr(judged(("or", P, ("not", P)))), kept)


if __name__ == "__main__":
    unittest.main()
