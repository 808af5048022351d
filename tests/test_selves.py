import unittest

from selfsay.errors import Outside, SayError, TooMany
from selfsay.sayings import letters_of, put, size_of, yes
from selfsay.selves import answer, marking, outer_parts, put_outer
from selfsay.texts import read, written
from selfsay.trees import Chain, Tree
from tests.samples import (MARKS, NO, P, Q, R, all_parts, all_trees, doubled, inner, plain_worth, small_sayings,
                           some_sayings, some_trees, spoil, wrapped)

OUTSIDE = ("p", "~p", "(p&[p])", "([p]|p)", "([p]>~~p)", "(q&(r|p))", "([[p]]&([q]>p))")


def r(text):
    return read(text)


def speaks_of_itself(saying):
    if saying == P:
        return False
    return saying[0] == "shown" or all(speaks_of_itself(a) for a in inner(saying))


def plain_outer(saying):
    if saying[0] == "shown":
        return {saying} if P in all_parts(saying) else set()
    return {part for a in inner(saying) for part in plain_outer(a)}


def plain_put_outer(saying, others):
    if saying[0] == "shown":
        return dict(others).get(saying, saying)
    return saying if not inner(saying) else (saying[0],) + tuple(plain_put_outer(a, others) for a in inner(saying))


def plain_answer(saying):
    outer = sorted(plain_outer(saying))
    if not outer:
        return saying
    if len(outer) == 1:
        ahead = plain_put_outer(saying, [(outer[0], yes())])
        return plain_put_outer(saying, [(outer[0], ("shown", put(outer[0][1], {"p": ahead})))])
    first = plain_answer(plain_put_outer(saying, [(outer[0], yes())]))
    second = plain_answer(plain_put_outer(saying, [(outer[1], yes())]))
    return plain_put_outer(saying, [(outer[0], ("shown", put(outer[0][1], {"p": first}))),
                                    (outer[1], ("shown", put(outer[1][1], {"p": second})))])


def marked_by(rooms, truths):
    """The rooms, p holding in just the rooms of the truths."""
    return [(below, ("p" if truth else "") + marks.replace("p", "")) for (below, marks), truth in zip(rooms, truths)]


def of_all_sizes(seed):
    """Sayings of each size up to ten, p and shown coming often."""
    return [saying for size in range(1, 11)
            for saying in some_sayings(seed + size, 200, size, (NO, P, Q, ("shown", P), ("shown", ("not", P))))
            if size_of(saying) <= 10]


class Refusing(unittest.TestCase):
    def assert_refused(self, error, asked, *handed):
        with self.assertRaises(SayError, msg=handed) as caught:
            asked(*handed)
        self.assertIs(type(caught.exception), error)


class OuterParts(Refusing):
    def test_outer_parts(self):
        for text, told in (("q", ""), ("0", ""), ("[q]", ""), ("[p]", "[p]"), ("~[~p]", "[~p]"),
                           ("([p]&[p])", "[p]"), ("([q]>[p])", "[p]"), ("([p]|[~p])", "[p] [~p]"),
                           ("([~p]|[p])", "[p] [~p]"), ("[[p]]", "[[p]]"), ("([p]&[[p]])", "[p] [[p]]"),
                           ("([[p]]&[q])", "[[p]]"), ("(([p]>q)&([(p|q)]|~[r]))", "[p] [(p|q)]"),
                           ("([[[p]]]&([[p]]&([p]&[(p>q)])))", "[(p>q)] [p] [[p]] [[[p]]]"), ("[([q]&p)]", "[([q]&p)]"),
                           ("[([q]&r)]", "")):
            self.assertEqual([written(part) for part in outer_parts(r(text))], told.split(), text)

    def test_all_small_sayings(self):
        for saying in small_sayings(4):
            if speaks_of_itself(saying):
                self.assertEqual(outer_parts(saying), sorted(plain_outer(saying)))
            else:
                self.assert_refused(Outside, outer_parts, saying)

    def test_outside(self):
        for text in OUTSIDE:
            self.assert_refused(Outside, outer_parts, r(text))
            self.assert_refused(Outside, put_outer, r(text), [])
            self.assert_refused(Outside, put_outer, r(text), [(("shown", P), Q)])
            self.assert_refused(Outside, marking, Chain([""]), r(text))
            self.assert_refused(Outside, answer, r(text))

    def test_great_sayings(self):
        great = doubled(P, 300)
        self.assert_refused(Outside, outer_parts, great)
        self.assertEqual(len(outer_parts(("shown", great))), 1)
        told = outer_parts(doubled(("and", ("shown", P), ("shown", Q)), 300))
        self.assertEqual(told, [("shown", P)])
        told = put_outer(doubled(("and", ("shown", P), ("shown", Q)), 300), [(("shown", P), R)])
        self.assertEqual((letters_of(told), size_of(told)), (["q", "r"], 5 * 2 ** 300 - 1))


class PutOuter(Refusing):
    def test_some_of_them(self):
        for text, others, told in (
                ("[p]", {"[p]": "q"}, "q"), ("[p]", {}, "[p]"), ("([p]&[~p])", {"[p]": "r"}, "(r&[~p])"),
                ("([p]&[~p])", {"[~p]": "r"}, "([p]&r)"), ("([p]&[~p])", {"[~p]": "r", "[p]": "q"}, "(q&r)"),
                ("([p]>([p]|q))", {"[p]": "~0"}, "(~0>(~0|q))"), ("([p]&[[p]])", {"[p]": "q"}, "(q&[[p]])"),
                ("([p]&[[p]])", {"[[p]]": "q"}, "([p]&q)"), ("([p]&[~p])", {"[p]": "[~p]", "[~p]": "[p]"}, "([~p]&[p])"),
                ("~[p]", {"[p]": "p"}, "~p"), ("([p]|[q])", {"[p]": "([p]&p)"}, "(([p]&p)|[q])"),
                ("([(q|[p])]>([p]>[r]))", {"[p]": "0"}, "([(q|[p])]>(0>[r]))")):
            pairs = [(r(part), r(other)) for part, other in others.items()]
            self.assertEqual(written(put_outer(r(text), pairs)), told)
            self.assertEqual(written(put_outer(r(text), pairs[::-1])), told)

    def test_all_small_sayings(self):
        for saying in small_sayings(4):
            if speaks_of_itself(saying):
                outer = sorted(plain_outer(saying))
                for count in range(len(outer) + 1):
                    pairs = [(part, ("and", part, wrapped("not", k, P))) for k, part in enumerate(outer[:count])]
                    self.assertEqual(put_outer(saying, pairs[::-1]), plain_put_outer(saying, pairs))

    def test_what_is_handed_in_stays(self):
        pairs = [(r("[p]"), Q), (r("[~p]"), R)]
        saying = r("([p]&[~p])")
        self.assertEqual(put_outer(saying, pairs), ("and", Q, R))
        self.assertEqual(pairs, [(r("[p]"), Q), (r("[~p]"), R)])
        self.assertEqual(saying, r("([p]&[~p])"))


class Marking(unittest.TestCase):
    def assert_marking(self, rooms, saying):
        told = marking(Tree(rooms), saying)
        self.assertEqual([type(truth) for truth in told], [bool] * len(rooms))
        marked = marked_by(rooms, told)
        self.assertEqual([plain_worth(marked, saying, k) for k in range(len(rooms))], told, (rooms, saying))
        return told

    def test_known_ones(self):
        rooms = Chain(["", "p", "pqr", ""])
        for text, told in (("[p]", "1111"), ("~[p]", "1110"), ("[~p]", "0001"), ("~[~p]", "0000"), ("[0]", "0001"),
                           ("q", "0010"), ("(q&[p])", "0000"), ("([p]>q)", "1110"), ("~0", "1111"), ("0", "0000"),
                           ("(q|[p])", "1111"), ("[(q|p)]", "1111"), ("[(q>p)]", "1111"), ("[(q&p)]", "0001")):
            self.assertEqual(marking(rooms, r(text)), [sign == "1" for sign in told], text)
        self.assertEqual(marking(Chain([""] * 4), r("~[p]")), [True, True, True, False])
        self.assertEqual(marking(Chain([""] * 4), r("[~p]")), [False, False, False, True])
        self.assertEqual(marking(Chain([""] * 4), r("[p]")), [True] * 4)

    def test_just_one(self):
        for rooms in all_trees(3, ("", "q")) + all_trees(4):
            for text in ("[p]", "~[p]", "[~p]", "([p]>q)", "~[(q>p)]", "[[p]]", "([~p]|[[p]])", "[([p]>(q|~p))]"):
                told = self.assert_marking(rooms, r(text))
                for number in range(2 ** len(rooms)):
                    truths = [number >> k & 1 == 1 for k in range(len(rooms))]
                    marked = marked_by(rooms, truths)
                    fits = [plain_worth(marked, r(text), k) for k in range(len(rooms))] == truths
                    self.assertEqual(fits, truths == told)

    def test_many_shapes(self):
        sayings = [saying for size in (3, 5, 8, 12) for saying in some_sayings(size, 120, size)
                   if speaks_of_itself(saying)]
        self.assertGreater(len(sayings), 100)
        for rooms in some_trees(2, 6, 7) + all_trees(2, MARKS)[::9] + all_trees(1, MARKS):
            for saying in sayings:
                self.assert_marking(rooms, saying)

    def test_whatever_the_marks_say_of_p(self):
        for rooms in some_trees(5, 8, 8):
            for text in ("~[p]", "([p]>q)", "[(p>r)]"):
                told = marking(Tree(rooms), r(text))
                self.assertEqual(marking(Tree(marked_by(rooms, [True] * 8)), r(text)), told)
                self.assertEqual(marking(Tree(marked_by(rooms, [False] * 8)), r(text)), told)

    def test_two_hundred_rooms(self):
        self.assertEqual(marking(Chain(["q"] * 200), r("~[p]")), [True] * 199 + [False])
        self.assertEqual(marking(Chain(["pq"] * 200), wrapped("shown", 119, P)), [True] * 200)
        rooms = [(-1, "q")] + [((k - 1) // 2, "r") for k in range(1, 200)]
        told = marking(Tree(rooms), r("[~p]"))
        self.assertEqual(told, [2 * k + 1 >= 200 for k in range(200)])

    def test_a_new_list_and_the_tree_stays(self):
        tree = Tree([(-1, "p"), (0, "pq"), (0, "")])
        told = marking(tree, r("~[p]"))
        kept = list(told)
        spoil(told)
        self.assertEqual(marking(tree, r("~[p]")), kept)
        self.assertEqual(tree.rooms(), [(-1, "p"), (0, "pq"), (0, "")])
        self.assertEqual(tree.holds(P), [True, True, False])


class Answer(Refusing):
    def test_without_outer_parts(self):
        for text in ("0", "q", "[q]", "(q&~r)", "([[q]]>[0])"):
            self.assertEqual(answer(r(text)), r(text))

    def test_one_outer_part(self):
        for text, told in (("[p]", "[~0]"), ("~[p]", "~[~~0]"), ("[~p]", "[~~0]"), ("([p]>q)", "([(~0>q)]>q)"),
                           ("[[p]]", "[[~0]]"), ("([p]&[p])", "([(~0&~0)]&[(~0&~0)])"), ("~[(p|q)]", "~[(~~0|q)]")):
            self.assertEqual(written(answer(r(text))), told)

    def test_two_outer_parts(self):
        # Of ([p]&[~p]), with yes for [p], (~0&[~p]), the answer is (~0&[~(~0&~0)]).
        self.assertEqual(written(answer(r("([p]&[~p])"))), "([(~0&[~(~0&~0)])]&[~([(~0&~0)]&~0)])")
        self.assertEqual(written(answer(r("([p]|[[p]])"))), "([(~0|[[(~0|~0)]])]|[[([(~0|~0)]|~0)]])")

    def test_as_it_is_told(self):
        counts = [0, 0, 0]
        for saying in small_sayings(4) + of_all_sizes(40):
            if speaks_of_itself(saying) and len(plain_outer(saying)) <= 2:
                told = answer(saying)
                self.assertEqual(told, plain_answer(saying))
                self.assertTrue(set(letters_of(told)) <= set(letters_of(saying)) - {"p"})
                counts[len(plain_outer(saying))] += 1
        self.assertGreater(min(counts), 20)

    def test_holds_in_the_rooms_of_the_marking(self):
        trees = [Tree(rooms) for rooms in some_trees(3, 10, 8) + [[(k - 1, "q"[k % 2:]) for k in range(12)]]]
        for saying in small_sayings(3) + of_all_sizes(90):
            if speaks_of_itself(saying) and len(plain_outer(saying)) <= 2:
                told = answer(saying)
                for tree in trees:
                    self.assertEqual(tree.holds(told), marking(tree, saying), (saying, tree.rooms()))

    def test_bounds(self):
        for saying in (wrapped("not", 8, ("shown", P)), wrapped("shown", 9, P), wrapped("not", 9, Q)):
            self.assertEqual(size_of(saying), 10)
            self.assertEqual(answer(saying), plain_answer(saying))
            self.assert_refused(TooMany, answer, ("not", saying))
        two = r("(~[p]&[~p])")
        self.assertEqual(answer(two), plain_answer(two))
        three = r("([p]&([~p]&[0]))")
        self.assertEqual(answer(three), plain_answer(three))
        self.assert_refused(TooMany, answer, r("([p]&([~p]&[[p]]))"))
        self.assert_refused(TooMany, answer, r("([p]&([(p&q)]|[~p]))"))
        eight = ("and", ("shown", P), ("and", ("shown", ("not", P)), ("shown", ("shown", P))))
        self.assertEqual(size_of(eight), 10)
        self.assert_refused(TooMany, answer, eight)

    def test_outside_goes_first(self):
        self.assert_refused(Outside, answer, wrapped("not", 30, P))
        self.assert_refused(Outside, answer, r("(p&([p]&([~p]&[[p]])))"))
        self.assert_refused(Outside, answer, doubled(P, 300))

    def test_great_sayings(self):
        self.assert_refused(TooMany, answer, doubled(Q, 300))
        self.assert_refused(TooMany, answer, wrapped("shown", 30, doubled(P, 300)))


if __name__ == "__main__":
    unittest.main()
