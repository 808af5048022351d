import itertools
import unittest

from selfsay.errors import SayError, TooMany
from selfsay.judging import judged
from selfsay.kinds import by_kind, kinds_of, things_of, tried
from selfsay.sayings import letters_of, parts_of, shown_parts
from selfsay.texts import read
from tests.samples import (MARKS, NO, P, Q, R, all_trees, doubled, plain_worth, small_sayings, some_sayings,
                           some_trees, spoil, wrapped)

A = ("shown", P)


def kind_in(rooms, things, room):
    sayings = [("letter", thing) if isinstance(thing, str) else thing for thing in things]
    return tuple(plain_worth(rooms, saying, room) for saying in sayings)


def plain_by_kind(saying, truths):
    word = saying[0]
    if word == "letter":
        return truths[saying[1]]
    if word == "shown":
        return truths[saying]
    if word == "no":
        return False
    if word == "not":
        return not plain_by_kind(saying[1], truths)
    one, other = plain_by_kind(saying[1], truths), plain_by_kind(saying[2], truths)
    return {"and": one and other, "or": one or other, "if": not one or other}[word]


class Things(unittest.TestCase):
    def test_things(self):
        self.assertEqual(things_of(NO), [])
        self.assertEqual(things_of(("or", Q, P)), ["p", "q"])
        self.assertEqual(things_of(("shown", NO)), [("shown", NO)])
        self.assertEqual(things_of(read("([[q]]&([p]>(r|[q])))")), ["p", "q", "r", A, read("[q]"), read("[[q]]")])
        for saying in some_sayings(1, 50, 12):
            self.assertEqual(things_of(saying), letters_of(saying) + shown_parts(saying))

    def test_more_than_six(self):
        self.assertEqual(len(things_of(wrapped("shown", 20, P))), 21)
        self.assertEqual(things_of(doubled(P, 300)), ["p"])


class Kinds(unittest.TestCase):
    def assert_refused(self, asked, *handed):
        with self.assertRaises(SayError) as caught:
            asked(*handed)
        self.assertIs(type(caught.exception), TooMany)

    def test_known_ones(self):
        self.assertEqual(kinds_of(NO), [()])
        self.assertEqual(kinds_of(P), [(False,), (True,)])
        self.assertEqual(kinds_of(("and", Q, P)), [(False, False), (False, True), (True, False), (True, True)])
        self.assertEqual(kinds_of(("shown", NO)), [(False,), (True,)])
        self.assertEqual(kinds_of(("shown", ("not", NO))), [(True,)])
        self.assertEqual(kinds_of(read("[[0]]")), [(False, False), (False, True), (True, True)])
        self.assertEqual(kinds_of(A), [(False, False), (False, True), (True, False), (True, True)])

    def test_kinds_are_sorted_tuples_of_truths(self):
        for saying in some_sayings(3, 60, 9):
            if len(shown_parts(saying)) <= 5:
                kinds = kinds_of(saying)
                self.assertEqual(kinds, sorted(set(kinds)))
                self.assertEqual(type(kinds), list)
                for kind in kinds:
                    self.assertEqual(type(kind), tuple)
                    self.assertEqual([type(truth) for truth in kind], [bool] * len(things_of(saying)))

    def test_just_those_of_rooms(self):
        # With one letter and depth 2 trees of up to five rooms have all that there can be.
        rooms = [each for count in range(1, 5) for each in all_trees(count, ("", "p"))]
        rooms += some_trees(1, 300, 6)
        for text in ("[p]", "[[p]]", "([p]|[~p])", "[([p]>p)]", "([0]>[p])", "([[0]]&p)", "[(p&[p])]"):
            saying = read(text)
            things = things_of(saying)
            found = {kind_in(each, things, room) for each in rooms for room in range(len(each))}
            self.assertEqual(kinds_of(saying), sorted(found), text)

    def test_every_room_is_of_a_kind(self):
        for saying in some_sayings(8, 40, 10):
            if len(shown_parts(saying)) <= 5:
                kinds = kinds_of(saying)
                for rooms in some_trees(4, 5, 7):
                    for room in range(7):
                        self.assertIn(kind_in(rooms, things_of(saying), room), kinds)

    def test_bounds(self):
        self.assertEqual(len(kinds_of(wrapped("shown", 5, NO))), 6)
        five = ("and", ("and", A, ("shown", Q)), ("and", ("shown", R), ("and", ("shown", NO), ("shown", ("not", P)))))
        self.assertEqual(len(shown_parts(five)), 5)
        self.assertEqual(len(kinds_of(five)), 8 * len({kind[3:] for kind in kinds_of(five)}))
        self.assertIs(tried(five), False)
        for saying in (wrapped("shown", 6, NO), ("or", five, ("shown", ("not", Q)))):
            self.assert_refused(kinds_of, saying)
            self.assert_refused(tried, saying)
        self.assert_refused(kinds_of, wrapped("shown", 119, P))

    def test_many_parts_that_are_not_shown(self):
        self.assertEqual(kinds_of(wrapped("not", 119, P)), [(False,), (True,)])
        self.assertEqual(kinds_of(doubled(("shown", NO), 300)), [(False,), (True,)])
        self.assertIs(tried(doubled(("or", P, ("not", P)), 300)), True)
        self.assertIs(tried(doubled(P, 300)), False)


class ByKind(unittest.TestCase):
    def test_all_tuples(self):
        for saying in small_sayings(3) + some_sayings(5, 60, 8):
            things = things_of(saying)
            if len(things) > 6:
                continue
            for kind in itertools.product((False, True), repeat=len(things)):
                expected = plain_by_kind(saying, dict(zip(things, kind)))
                self.assertIs(by_kind(saying, things, kind), expected, (saying, kind))

    def test_tuples_that_are_no_kinds(self):
        saying = read("([[0]]>[0])")
        things = things_of(saying)
        self.assertNotIn((True, False), kinds_of(saying))
        self.assertIs(by_kind(saying, things, (True, False)), True)
        self.assertIs(by_kind(saying, things, (False, True)), False)
        self.assertIs(by_kind(read("[~0]"), [read("[~0]")], (False,)), False)

    def test_things_of_another_saying(self):
        whole = read("([(q&[r])]&(p|[q]))")
        things = things_of(whole)
        self.assertEqual(things, ["p", "q", "r", read("[(q&[r])]"), read("[q]"), read("[r]")])
        for part in parts_of(whole):
            for kind in itertools.product((False, True), repeat=6):
                self.assertIs(by_kind(part, things, kind), plain_by_kind(part, dict(zip(things, kind))))

    def test_what_stands_within_shown_need_not_be_among_the_things(self):
        saying = read("([(q&[r])]>p)")
        for kind in itertools.product((False, True), repeat=2):
            self.assertIs(by_kind(saying, ["p", read("[(q&[r])]")], kind), kind[0] or not kind[1])

    def test_things_stay(self):
        things, kind = ["p", A], (True, False)
        self.assertIs(by_kind(("if", A, P), things, kind), True)
        self.assertEqual((things, kind), (["p", A], (True, False)))

    def test_great_sayings(self):
        great = doubled(("if", P, A), 300)
        self.assertEqual([by_kind(great, ["p", A], kind) for kind in kinds_of(great)], [True, True, False, True])


class Tried(unittest.TestCase):
    def test_tried_where_there_is_a_showing(self):
        for saying in small_sayings(3) + some_sayings(6, 150, 7) + some_sayings(7, 80, 12):
            if len(shown_parts(saying)) <= 5:
                holds = [by_kind(saying, things_of(saying), kind) for kind in kinds_of(saying)]
                self.assertIs(tried(saying), all(holds))
                self.assertIs(tried(saying), judged(saying)[0] == "showing")

    def test_known_ones(self):
        for text, truth in (("([([p]>p)]>[p])", True), ("([p]>p)", False), ("~0", True), ("0", False),
                            ("([p]>[[p]])", True), ("(p|~p)", True), ("p", False)):
            self.assertIs(tried(read(text)), truth)


class TheAskersOwn(unittest.TestCase):
    def test_what_is_told_may_be_spoilt(self):
        saying = read("([p]>(q|[[p]]))")
        for asked in (things_of, kinds_of):
            told = asked(saying)
            kept = repr(told)
            spoil(told)
            self.assertEqual(repr(asked(saying)), kept)


if __name__ == "__main__":
    unittest.main()
