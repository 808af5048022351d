import unittest

from selfsay.claims import claim_of, claim_parts, claim_shown
from selfsay.errors import Outside, SayError, TooMany
from selfsay.sayings import put
from selfsay.selfpapers import self_paper
from selfsay.selves import answer
from selfsay.showings import shows
from selfsay.texts import read
from tests.samples import NO, P, Q, doubled, small_sayings, some_sayings, spoil, wrapped


class Papers(unittest.TestCase):
    def assert_refused(self, error, saying):
        with self.assertRaises(SayError) as caught:
            self_paper(saying)
        self.assertIs(type(caught.exception), error)

    def assert_paper(self, saying):
        told = self_paper(saying)
        self.assertEqual((type(told), len(told)), (tuple, 3))
        self.assertEqual(told[0], answer(saying))
        said = put(saying, {"p": told[0]})
        self.assertIs(shows(told[1], ([told[0]], [said])), True)
        self.assertIs(shows(told[2], ([said], [told[0]])), True)

    def test_known_ones(self):
        for text in ("[p]", "~[p]", "[~p]", "~[~p]", "([p]>q)", "q", "0", "[q]", "[[p]]", "[(p>q)]", "~[(q>p)]",
                     "([p]&[~p])", "(~[p]>[(p&q)])", "(q&[(p|r)])", "([p]>[~p])"):
            self.assert_paper(read(text))

    def test_many_shapes(self):
        papers, refused = 0, []
        leaves = (NO, P, Q, ("shown", P), ("shown", ("not", P)))
        sayings = [saying for size in range(2, 9) for saying in some_sayings(size, 120, size, leaves)]
        for saying in small_sayings(3) + sayings:
            try:
                told = answer(saying)
            except SayError as refusal:
                self.assert_refused(type(refusal), saying)
                continue
            claim = claim_of([told], [put(saying, {"p": told})])
            if len(claim_parts(claim)) > 40 or len(claim_shown(claim)) > 6:
                self.assert_refused(TooMany, saying)
                refused.append(saying)
            else:
                self.assert_paper(saying)
                papers += 1
        self.assertGreater(papers, 200)
        self.assertGreater(len(refused), 3)

    def test_refused(self):
        self.assert_refused(Outside, P)
        self.assert_refused(Outside, wrapped("not", 20, P))
        self.assert_refused(Outside, read("(p&([p]&([~p]&[[p]])))"))
        self.assert_refused(TooMany, read("([p]&([~p]&[[p]]))"))
        self.assert_refused(TooMany, read("([p]|[[p]])"))
        self.assert_refused(TooMany, wrapped("not", 10, Q))
        self.assert_refused(TooMany, wrapped("shown", 7, Q))
        self.assert_refused(TooMany, doubled(Q, 100))

    def test_the_askers_own(self):
        for text in ("~[p]", "([p]&[~p])"):
            told = self_paper(read(text))
            kept = repr(told)
            spoil(told)
            self.assertEqual(repr(self_paper(read(text))), kept)


if __name__ == "__main__":
    unittest.main()
