"""What the document promises over the whole program, on sayings, claims and trees of many shapes."""

import unittest

from selfsay.claims import claim_of, claim_parts, claim_shown
from selfsay.errors import SayError
from selfsay.judging import alike, judged
from selfsay.kinds import kinds_of, tried
from selfsay.rows import row_of, same_rows, saying_of_row
from selfsay.sayings import letters_of, put, shown_parts
from selfsay.searching import searched
from selfsay.selfpapers import self_paper
from selfsay.selves import answer, marking
from selfsay.showings import shows
from selfsay.texts import read, written
from selfsay.trees import Chain, Tree
from tests.samples import NO, P, Q, small_sayings, some_sayings, some_trees

TREES = [Tree(rooms) for rooms in some_trees(1, 8, 6) + some_trees(2, 4, 12)] + [Chain(["", "p", "q", "pq", "r"] * 2)]


class Whole(unittest.TestCase):
    def test_a_claim_comes_to_just_one_end(self):
        for seed in range(150):
            claim = claim_of(some_sayings(seed, 2, 6), some_sayings(seed + 300, 2, 7))
            if len(claim_parts(claim)) > 40 or len(claim_shown(claim)) > 6:
                continue
            told = searched(claim)
            left, right = claim
            fails = any(all(tree.worth(a, k) for a in left) and not any(tree.worth(a, k) for a in right)
                        for tree in TREES for k in range(len(tree.rooms())))
            if told[0] == "showing":
                self.assertIs(fails, False)
                self.assertIs(shows(told[1], claim), True)
            else:
                first = Tree(told[1])
                self.assertTrue(all(first.worth(a, 0) for a in left) and not any(first.worth(a, 0) for a in right))
                self.assertLessEqual(first.height(0), len(claim_shown(claim)))

    def test_rows_and_trees_and_judging(self):
        sayings = [saying for size in (3, 6, 9) for saying in some_sayings(size, 40, size, (NO,))]
        for saying in sayings:
            row = row_of(saying)
            for tree in TREES:
                truths = [row[min(tree.height(k), len(row) - 1)] for k in range(len(tree.rooms()))]
                self.assertEqual(tree.holds(saying), truths)
            other = saying_of_row(row)
            self.assertTrue(same_rows(row, row_of(other)))
            if len(set(shown_parts(saying) + shown_parts(other))) <= 6:
                self.assertEqual(alike(saying, other)[0], "alike")
                self.assertEqual(judged(saying)[0] == "showing", all(row))

    def test_answers(self):
        leaves = (NO, Q, ("shown", P), ("shown", ("not", P)))
        answered = 0
        for saying in small_sayings(3) + [a for size in (4, 6, 8) for a in some_sayings(size, 60, size, leaves)]:
            try:
                told = answer(saying)
            except SayError:
                continue
            answered += 1
            self.assertNotIn("p", letters_of(told))
            for tree in TREES:
                truths = marking(tree, saying)
                self.assertEqual(tree.holds(told), truths)
                self.assertEqual(tree.holds(put(saying, {"p": told})), truths)
        self.assertGreater(answered, 100)

    def test_kinds_and_judging(self):
        for saying in some_sayings(11, 120, 8):
            if len(shown_parts(saying)) <= 5:
                self.assertEqual(tried(saying), judged(saying)[0] == "showing")
                self.assertTrue(kinds_of(saying))

    def test_what_is_told_may_be_handed_in_again(self):
        told = answer(read("([p]&[~p])"))
        self.assertEqual(read(written(told)), told)
        paper = self_paper(read("~[(p>q)]"))
        for steps in paper[1:]:
            claim = (steps[-1][0], steps[-1][1])
            self.assertIs(shows(steps, claim), True)
            self.assertEqual(searched(claim)[0], "showing")
            for step in steps:
                self.assertEqual(searched((step[0], step[1]))[0], "showing")
        self.assertEqual(Tree(judged(read("[[p]]"))[1]).holds(read("[[p]]"))[0], False)

    def test_asked_again_with_others_between(self):
        asked = [lambda: judged(read("([p]>p)")), lambda: answer(read("([p]>[~p])")), lambda: kinds_of(read("[[p]]")),
                 lambda: self_paper(read("~[p]")), lambda: marking(TREES[0], read("~[p]"))]
        first = [repr(ask()) for ask in asked]
        self.assertEqual([repr(ask()) for ask in asked[::-1]], first[::-1])


if __name__ == "__main__":
    unittest.main()
