import unittest

from selfsay.claims import claim_of, claim_parts, claim_shown
from selfsay.errors import SayError, TooMany
from selfsay.sayings import put, yes
from selfsay.searching import searched
from selfsay.showings import shows
from selfsay.texts import read
from selfsay.trees import Tree
from tests.samples import (JOINS, MARKS, NO, P, Q, R, all_trees, doubled, plain_worth, small_sayings, some_sayings,
                           some_trees, spoil, wrapped)

A = ("shown", P)


def fails_in(rooms, claim, room):
    return (all(plain_worth(rooms, saying, room) for saying in claim[0])
            and not any(plain_worth(rooms, saying, room) for saying in claim[1]))


def walk_up(rooms):
    """How many rooms the longest walk up comes to, its first room among them."""
    counts = [1] * len(rooms)
    for k in range(len(rooms) - 1, 0, -1):
        counts[rooms[k][0]] = max(counts[rooms[k][0]], counts[k] + 1)
    return counts[0]


class Searching(unittest.TestCase):
    def assert_paper(self, claim, end=None):
        """That the claim comes to an end with a right paper; the end is told."""
        told = searched(claim)
        self.assertEqual((type(told), len(told)), (tuple, 2))
        self.assertIn(told[0], ("showing", "tree"))
        self.assertIs(type(told[1]), list)
        if told[0] == "showing":
            self.assertIs(shows(told[1], claim), True, claim)
        else:
            Tree(told[1])
            self.assertTrue(fails_in(told[1], claim, 0), (claim, told))
            self.assertLessEqual(walk_up(told[1]), len(claim_shown(claim)) + 1, (claim, told))
        if end is not None:
            self.assertEqual(told[0], end, claim)
        return told


class Ordinary(Searching):
    def test_no_sayings(self):
        self.assert_paper(([], []), "tree")
        self.assert_paper(([], [NO]), "tree")
        self.assert_paper(([yes()], []), "tree")

    def test_one_side(self):
        self.assert_paper(([P], []), "tree")
        self.assert_paper(([], [P]), "tree")
        self.assert_paper(([NO], []), "showing")
        self.assert_paper(([], [yes()]), "showing")
        self.assert_paper(([P, ("not", P)], []), "showing")
        self.assert_paper(([], [P, ("not", P)]), "showing")
        self.assert_paper(([], [A]), "tree")

    def test_a_saying_at_both_sides(self):
        for saying in small_sayings(3):
            self.assert_paper(([saying], [saying]), "showing")
            self.assert_paper(claim_of([saying, Q], [R, saying]), "showing")

    def test_what_never_holds_at_the_left(self):
        for saying in small_sayings(2):
            self.assert_paper(claim_of([NO, saying], [P]), "showing")
            self.assert_paper(claim_of([NO, saying], []), "showing")

    def test_joins(self):
        for text, end in (("(p>p)", "showing"), ("(p>q)", "tree"), ("((p&q)>p)", "showing"), ("((p|q)>p)", "tree"),
                          ("(p|~p)", "showing"), ("(((p>q)>p)>p)", "showing"), ("((p&(p>q))>q)", "showing"),
                          ("(((p|q)&(~p|r))>(q|r))", "showing"), ("((p>q)|(q>p))", "showing"), ("~(p&~p)", "showing"),
                          ("((p>q)>(q>p))", "tree"), ("~0", "showing"), ("0", "tree"), ("(0>p)", "showing")):
            self.assert_paper(([], [read(text)]), end)

    def test_shown(self):
        for text, end in (("([p]>p)", "tree"), ("(p>[p])", "tree"), ("[~0]", "showing"), ("[0]", "tree"),
                          ("~[0]", "tree"), ("[[0]]", "tree"), ("([0]>[p])", "showing"), ("([p]|[~p])", "tree"),
                          ("(([p]|[q])>[(p|q)])", "showing"), ("([(p|q)]>([p]|[q]))", "tree"),
                          ("([([p]>q)]|[([q]>p)])", "tree"), ("([p]>[(q>p)])", "showing"),
                          ("[([p]>p)]", "tree"), ("([~[0]]>[0])", "showing"), ("(~[0]>~[~[0]])", "showing")):
            self.assert_paper(([], [read(text)]), end)

    def test_known_schemes(self):
        for a in small_sayings(2):
            for b in (P, NO, ("not", Q), ("shown", R), a):
                texts = ("([(p>q)]>([p]>[q]))", "([p]>[[p]])", "([([p]>p)]>[p])", "([(p&q)]>([p]&[q]))",
                         "(([p]&[q])>[(p&q)])")
                for text in texts:
                    self.assert_paper(([], [put(read(text), {"p": a, "q": b})]), "showing")
        self.assert_paper(([A], [("shown", A)]), "showing")
        self.assert_paper(([("shown", A)], [A]), "tree")
        self.assert_paper(([read("[([p]>p)]")], [A]), "showing")
        self.assert_paper(claim_of([read("[(p>q)]"), A], [("shown", Q)]), "showing")

    def test_several_at_each_side(self):
        for left, right, end in (("(p>q) (q>r) p", "r", "showing"), ("(p>q) (q>r)", "r", "tree"),
                                 ("[p] [q]", "[(p&q)] r", "showing"), ("(p|q)", "p q", "showing"),
                                 ("[(p|q)]", "[p] [q]", "tree"), ("~[p]", "~[q] [0]", "tree"),
                                 ("[([p]>p)] q", "r [[p]]", "showing"), ("[~p] ~[0]", "[p]", "tree"),
                                 ("[~p] [p]", "[0]", "showing"), ("~[~p] ~[~q]", "~[~(p&q)]", "tree")):
            claim = claim_of([read(text) for text in left.split()], [read(text) for text in right.split()])
            self.assert_paper(claim, end)

    def test_high_trees(self):
        for count in range(7):
            saying = wrapped("shown", count, NO)
            told = self.assert_paper(([], [saying]), "tree")
            self.assertEqual(walk_up(told[1]), count + 1)


class Shapes(Searching):
    def test_all_small_sayings(self):
        rooms = all_trees(3, ("", "p", "qr")) + all_trees(2, MARKS)
        for saying in small_sayings(3):
            told = self.assert_paper(([], [saying]))
            if told[0] == "showing":
                for each in rooms:
                    self.assertNotIn(False, Tree(each).holds(saying), (each, saying))

    def test_claims_of_many_shapes(self):
        ends = []
        trees = [Tree(rooms) for rooms in some_trees(3, 12, 9) + some_trees(4, 3, 30)]
        for seed in range(400):
            count, size = seed % 4, 3 + seed % 9
            claim = claim_of(some_sayings(seed, count, size), some_sayings(seed + 1000, 1 + seed % 3, size))
            if len(claim_parts(claim)) > 40 or len(claim_shown(claim)) > 6:
                continue
            told = self.assert_paper(claim)
            ends.append(told[0])
            if told[0] == "showing":
                for tree in trees:
                    left = [tree.holds(saying) for saying in claim[0]]
                    right = [tree.holds(saying) for saying in claim[1]]
                    for room in range(len(tree.rooms())):
                        self.assertTrue(not all(truths[room] for truths in left)
                                        or any(truths[room] for truths in right), claim)
        self.assertGreater(ends.count("showing"), 60)
        self.assertGreater(ends.count("tree"), 60)

    def test_a_long_showing(self):
        def same(one, other):
            return ("and", ("if", one, other), ("if", other, one))

        things = [P, Q, R, A, ("shown", Q), ("shown", R)]
        one, other = things[0], things[-1]
        for k in range(1, 6):
            one, other = same(one, things[k]), same(things[-1 - k], other)
        claim = ([one], [other])
        self.assertEqual(len(claim_parts(claim)), 36)
        told = self.assert_paper(claim, "showing")
        self.assertGreater(len(told[1]), 100)

    def test_nothing_has_both(self):
        # What fails in a room of a tree is not told to be shown, and what is told to be shown fails in none.
        rooms = some_trees(7, 40, 6)
        for saying in some_sayings(5, 150, 7):
            fails = any(False in Tree(each).holds(saying) for each in rooms)
            if fails:
                self.assert_paper(([], [saying]), "tree")

    def test_great_sayings_of_few_parts(self):
        for word in JOINS:
            saying = P
            for _ in range(39):
                saying = put((word, P, P), {"p": saying})
            self.assert_paper(([saying], [saying]), "showing")
        saying = doubled(P, 38)
        for claim, end in ((([saying], [P]), "showing"), (([P], [saying]), "showing"), (([], [saying]), "tree"),
                           (([], [("if", saying, P)]), "showing")):
            told = searched(claim)
            self.assertEqual(told[0], end)
            if end == "showing":
                self.assertIs(shows(told[1], claim), True)


class Bounds(Searching):
    def assert_refused(self, claim):
        with self.assertRaises(SayError) as caught:
            searched(claim)
        self.assertIs(type(caught.exception), TooMany)

    def test_forty_parts(self):
        self.assert_paper(([], [wrapped("not", 39, P)]), "tree")
        self.assert_refused(([], [wrapped("not", 40, P)]))
        self.assert_refused(([wrapped("not", 40, P)], []))
        forty = ("and", wrapped("not", 18, P), wrapped("not", 19, Q))
        self.assertEqual(len(claim_parts(([forty], []))), 40)
        self.assert_paper(([forty], []), "tree")
        self.assert_refused(([("not", forty)], []))
        self.assert_refused(([forty], [R]))

    def test_parts_of_both_sides_are_counted_once(self):
        deep = wrapped("not", 39, P)
        self.assert_paper(([deep], [deep]), "showing")
        self.assert_paper(([wrapped("not", 38, P)], [deep]), "tree")
        self.assert_paper(claim_of([wrapped("not", k, P) for k in range(0, 40, 3)], [deep]))
        self.assert_paper(([wrapped("not", 20, P)], [wrapped("not", 18, Q)]), "tree")
        self.assert_refused(([wrapped("not", 20, P)], [wrapped("not", 19, Q)]))

    def test_six_shown_parts(self):
        self.assert_paper(([], [wrapped("shown", 6, P)]), "tree")
        self.assert_refused(([], [wrapped("shown", 7, P)]))
        six = [("shown", saying) for saying in (P, Q, R, NO, ("not", P), ("not", Q))]
        self.assert_paper(claim_of(six[:3], six[3:]), "tree")
        self.assert_paper(claim_of(six, six), "showing")
        self.assert_refused(claim_of(six, [("shown", ("not", R))]))
        self.assert_refused(claim_of([], six + [("shown", six[0])]))

    def test_forty_parts_and_six_shown_ones(self):
        found = 0
        for seed in range(1200):
            claim = claim_of(some_sayings(seed, 2, 15), some_sayings(seed + 5000, 2, 15))
            if len(claim_parts(claim)) == 40 and len(claim_shown(claim)) == 6:
                self.assert_paper(claim)
                found += 1
        self.assertGreater(found, 5)

    def test_two_hundred_sayings(self):
        self.assert_refused(claim_of(small_sayings(3)[:200], [P]))

    def test_great_sayings(self):
        self.assert_refused(([], [doubled(P, 400)]))
        self.assert_refused(([wrapped("shown", 7, doubled(P, 40))], []))


class TheAskersOwn(unittest.TestCase):
    def test_what_is_told_may_be_spoilt(self):
        for text in ("([([p]>p)]>[p])", "([p]>p)", "((p|q)>(q|p))", "[[[0]]]"):
            claim = ([], [read(text)])
            first = searched(claim)
            kept = repr(first)
            spoil(first)
            searched(([P], [P]))
            self.assertEqual(repr(searched(claim)), kept)

    def test_lists_are_not_told_twice(self):
        told = searched(([], [read("((p|p)>((p&p)|p))")]))
        lists = [each for step in told[1] for each in step if isinstance(each, list)]
        self.assertEqual(len({id(each) for each in lists}), len(lists))

    def test_what_is_handed_in_stays(self):
        claim = ([P, Q], [("and", Q, P)])
        kept = repr(claim)
        told = searched(claim)
        self.assertEqual(repr(claim), kept)
        spoil(told)
        self.assertEqual(repr(claim), kept)
        told = searched(claim)
        kept = repr(told)
        claim[0].append(R)
        claim[1].clear()
        self.assertEqual(repr(told), kept)


if __name__ == "__main__":
    unittest.main()
