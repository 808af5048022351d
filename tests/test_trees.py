import unittest

from selfsay.errors import NoTree, SayError
from selfsay.sayings import yes
from selfsay.trees import Chain, Tree
from tests.samples import (MARKS, NO, P, Q, R, all_trees, plain_above, plain_height, plain_worth,
                           sayings_of_size_120, small_sayings, some_sayings, some_trees)

# Room 0 has the branches 1 and 2; 3 and 5 stand on 1, 4 on 2, 6 on 3.
BRANCHES = [(-1, ""), (0, "p"), (0, "q"), (1, "pq"), (2, ""), (1, "r"), (3, "pqr")]


class Refusing(unittest.TestCase):
    def assert_room(self, kind, handed, room):
        with self.assertRaises(SayError, msg=repr(handed)) as caught:
            kind(handed)
        self.assertIs(type(caught.exception), NoTree)
        self.assertEqual(caught.exception.room, room, repr(handed))
        self.assertIs(type(caught.exception.room), int)


class TellingRooms(Refusing):
    def test_one_room(self):
        for marks in MARKS:
            self.assertEqual(Tree([(-1, marks)]).rooms(), [(-1, marks)])

    def test_many_rooms(self):
        self.assertEqual(Tree(BRANCHES).rooms(), BRANCHES)
        for rooms in all_trees(4) + all_trees(2, MARKS) + some_trees(1, 20, 30):
            self.assertEqual(Tree(rooms).rooms(), rooms)

    def test_the_empty_list(self):
        self.assert_room(Tree, [], 0)

    def test_room_0_stands_on_none(self):
        for below in (0, 1, -2, 7, 10 ** 59, -10 ** 59):
            self.assert_room(Tree, [(below, "")], 0)
            self.assert_room(Tree, [(below, "p"), (0, "")], 0)

    def test_a_later_room_stands_on_an_earlier_one(self):
        for number in (1, 2, 3, 10):
            rooms = [(-1, "")] + [(0, "p")] * (number - 1)
            for below in (-1, -2, -number, number, number + 1, 10 ** 59, -10 ** 59):
                self.assert_room(Tree, rooms + [(below, "p")], number)
                self.assert_room(Tree, rooms + [(below, "p"), (0, "")], number)
            for below in range(number):
                self.assertEqual(Tree(rooms + [(below, "p")]).rooms()[number], (below, "p"))

    def test_marks(self):
        wrong = ("qp", "rp", "rq", "prq", "qpr", "rqp", "pp", "qq", "ppq", "pqrr", "s", "P", "ps", " ", "p q",
                 "-", "0", "p,q", "pqrp")
        for marks in wrong:
            self.assert_room(Tree, [(-1, marks)], 0)
            self.assert_room(Tree, [(-1, "p"), (0, ""), (0, marks), (0, "")], 2)

    def test_the_first_that_is_not_so(self):
        self.assert_room(Tree, [(-1, "p"), (0, "qp"), (5, ""), (-1, "")], 1)
        self.assert_room(Tree, [(-1, "p"), (1, ""), (0, "qp")], 1)
        self.assert_room(Tree, [(-1, "p"), (0, ""), (2, "rr"), (0, "x")], 2)
        self.assert_room(Tree, [(0, "x"), (1, "x")], 0)

    def test_truths_are_no_whole_numbers(self):
        self.assert_room(Tree, [(-1, ""), (False, "")], 1)
        self.assert_room(Tree, [(-1, ""), (0, ""), (True, "")], 2)

    def test_a_right_list_behind_a_refused_one(self):
        for wrong in ([], [(0, "")], [(-1, "qp")], [(-1, ""), (1, "")]):
            self.assertRaises(NoTree, Tree, wrong)
            self.assertEqual(Tree(BRANCHES).rooms(), BRANCHES)
            self.assertEqual(Tree(BRANCHES).holds(P), [False, True, False, True, False, False, True])


class AboveAndHeight(unittest.TestCase):
    def test_one_room(self):
        self.assertEqual(Tree([(-1, "")]).above(0), [])
        self.assertEqual(Tree([(-1, "")]).height(0), 0)

    def test_branches(self):
        tree = Tree(BRANCHES)
        self.assertEqual([tree.above(k) for k in range(7)],
                         [[1, 2, 3, 4, 5, 6], [3, 5, 6], [4], [6], [], [], []])
        self.assertEqual([tree.height(k) for k in range(7)], [3, 2, 1, 1, 0, 0, 0])

    def test_asked_in_any_order(self):
        for order in ((6, 0, 3, 1, 5, 2, 4), (0, 0, 6, 6, 1, 0)):
            tree = Tree(BRANCHES)
            for room in order:
                self.assertEqual(tree.height(room), plain_height(BRANCHES, room))
                self.assertEqual(tree.above(room), plain_above(BRANCHES, room))

    def test_chains(self):
        for count in (1, 2, 5, 30):
            chain = Chain([""] * count)
            for room in range(count):
                self.assertEqual(chain.above(room), list(range(room + 1, count)))
                self.assertEqual(chain.height(room), count - 1 - room)

    def test_all_small_trees(self):
        for rooms in [rooms for count in (1, 2, 3, 4, 5, 6) for rooms in all_trees(count)] + some_trees(2, 10, 40):
            tree = Tree(rooms)
            for room in range(len(rooms)):
                self.assertEqual(tree.above(room), plain_above(rooms, room))
                self.assertEqual(tree.height(room), plain_height(rooms, room))


class Holding(unittest.TestCase):
    def assert_holds(self, rooms, saying, truths):
        tree = Tree(rooms)
        self.assertEqual(tree.holds(saying), truths, (rooms, saying))
        self.assertEqual([tree.worth(saying, k) for k in range(len(rooms))], truths, (rooms, saying))

    def test_each_form(self):
        rooms = [(-1, "p"), (0, "pq"), (0, "q"), (1, "")]
        cases = ((NO, [0, 0, 0, 0]), (P, [1, 1, 0, 0]), (Q, [0, 1, 1, 0]), (R, [0, 0, 0, 0]),
                 (("not", P), [0, 0, 1, 1]), (yes(), [1, 1, 1, 1]), (("and", P, Q), [0, 1, 0, 0]),
                 (("or", P, Q), [1, 1, 1, 0]), (("if", P, Q), [0, 1, 1, 1]), (("if", Q, P), [1, 1, 0, 1]),
                 (("shown", P), [0, 0, 1, 1]), (("shown", Q), [0, 0, 1, 1]),
                 (("shown", ("or", Q, ("shown", NO))), [1, 1, 1, 1]), (("shown", NO), [0, 0, 1, 1]),
                 (("shown", ("shown", NO)), [0, 1, 1, 1]), (("not", ("shown", R)), [1, 1, 0, 0]))
        for saying, truths in cases:
            self.assert_holds(rooms, saying, [truth == 1 for truth in truths])

    def test_truths_are_truths(self):
        tree = Tree(BRANCHES)
        for saying in (P, NO, ("shown", Q), ("if", P, R)):
            self.assertEqual({type(truth) for truth in tree.holds(saying)}, {bool})
            self.assertIs(type(tree.worth(saying, 3)), bool)

    def test_shown_where_nothing_stands(self):
        for saying in small_sayings(3):
            self.assert_holds([(-1, "p")], ("shown", saying), [True])
            self.assertEqual(Tree(BRANCHES).holds(("shown", saying))[4:], [True, True, True])

    def test_the_room_itself_is_not_further_up(self):
        self.assert_holds([(-1, ""), (0, "p")], ("shown", P), [True, True])
        self.assert_holds([(-1, "p"), (0, "")], ("shown", P), [False, True])

    def test_shown_looks_further_than_one_room(self):
        self.assert_holds([(-1, "p"), (0, "p"), (1, "")], ("shown", P), [False, False, True])
        self.assert_holds([(-1, ""), (0, ""), (1, "p")], ("shown", ("shown", P)), [True, True, True])
        self.assert_holds([(-1, ""), (0, ""), (1, ""), (2, "")], ("shown", ("shown", NO)),
                          [False, False, True, True])

    def test_small_sayings_in_small_trees(self):
        trees = [rooms for count in (1, 2) for rooms in all_trees(count, ("", "p", "qr"))]
        for rooms in trees + all_trees(3, ("p", "q")):
            tree = Tree(rooms)
            for saying in small_sayings(3):
                truths = [plain_worth(rooms, saying, k) for k in range(len(rooms))]
                self.assertEqual(tree.holds(saying), truths, (rooms, saying))

    def test_larger_sayings_in_larger_trees(self):
        sayings = some_sayings(3, 25, 12) + some_sayings(4, 5, 30)
        for rooms in [BRANCHES] + some_trees(5, 6, 9):
            tree = Tree(rooms)
            for saying in sayings:
                truths = [plain_worth(rooms, saying, k) for k in range(len(rooms))]
                self.assertEqual(tree.holds(saying), truths, (rooms, saying))

    def test_asked_in_either_order(self):
        saying, other = ("shown", ("if", P, ("shown", Q))), ("or", ("shown", P), R)
        truths = [plain_worth(BRANCHES, saying, k) for k in range(7)]
        for room in range(7):
            self.assertEqual(Tree(BRANCHES).worth(saying, room), truths[room])
            tree = Tree(BRANCHES)
            self.assertEqual(tree.holds(other), [plain_worth(BRANCHES, other, k) for k in range(7)])
            self.assertEqual(tree.worth(saying, room), truths[room])
            self.assertEqual(tree.holds(saying), truths)
            tree = Tree(BRANCHES)
            tree.worth(saying, room)
            tree.worth(other, room)
            self.assertEqual(tree.holds(saying), truths)

    def test_size_120(self):
        rooms = BRANCHES + [(6, "p"), (7, "q")]
        for saying in sayings_of_size_120() + some_sayings(7, 5, 120):
            tree = Tree(rooms)
            truths = [plain_worth(rooms, saying, k) for k in range(9)]
            self.assertEqual(tree.holds(saying), truths, saying)
            self.assertEqual([tree.worth(saying, k) for k in range(9)], truths, saying)


class Chains(Refusing):
    def test_rooms(self):
        self.assertEqual(Chain(["p"]).rooms(), [(-1, "p")])
        self.assertEqual(Chain(["p", "", "qr"]).rooms(), [(-1, "p"), (0, ""), (1, "qr")])
        self.assertEqual(Chain(list(MARKS)).rooms(), [(k - 1, marks) for k, marks in enumerate(MARKS)])

    def test_a_chain_is_a_tree(self):
        self.assertIsInstance(Chain([""]), Tree)
        self.assertTrue(issubclass(Chain, Tree))

    def test_refused(self):
        self.assert_room(Chain, [], 0)
        self.assert_room(Chain, ["qp"], 0)
        self.assert_room(Chain, ["p", "q", "x", "rr"], 2)
        self.assert_room(Chain, ["", "pp", "p"], 1)
        self.assert_room(Chain, [""] * 20 + ["-"], 20)
        self.assertEqual(Chain(["", "p"]).rooms(), [(-1, ""), (0, "p")])

    def test_the_same_answers_as_the_tree(self):
        for marks in (["p"], ["p", "q"], ["", "pq", "r", "pqr", "", "p"], list(MARKS)):
            rooms = [(k - 1, each) for k, each in enumerate(marks)]
            chain, tree = Chain(marks), Tree(rooms)
            for saying in small_sayings(3) + some_sayings(6, 20, 15):
                self.assertEqual(chain.holds(saying), tree.holds(saying))
                for room in range(len(marks)):
                    self.assertEqual(chain.worth(saying, room), tree.worth(saying, room))
            for room in range(len(marks)):
                self.assertEqual((chain.above(room), chain.height(room)), (tree.above(room), tree.height(room)))
            self.assertEqual(chain.rooms(), tree.rooms())


class Keeping(unittest.TestCase):
    def test_what_is_handed_in_stays(self):
        rooms, marks = list(BRANCHES), ["p", "", "q"]
        tree, chain = Tree(rooms), Chain(marks)
        tree.holds(("shown", P))
        chain.holds(("shown", P))
        self.assertEqual((rooms, marks), (BRANCHES, ["p", "", "q"]))

    def test_changing_it_afterwards_changes_nothing(self):
        rooms, marks = list(BRANCHES), ["p", "", "q"]
        tree, chain = Tree(rooms), Chain(marks)
        rooms[3] = (0, "r")
        rooms.pop()
        marks[0] = "r"
        marks.append("zzz")
        self.assertEqual(tree.rooms(), BRANCHES)
        self.assertEqual(tree.above(1), [3, 5, 6])
        self.assertEqual(tree.holds(P), [False, True, False, True, False, False, True])
        self.assertEqual(chain.rooms(), [(-1, "p"), (0, ""), (1, "q")])
        self.assertEqual(chain.holds(P), [True, False, False])

    def test_changing_a_told_list_changes_nothing(self):
        for tree in (Tree(BRANCHES), Chain(["p", "q", "", "r"])):
            for ask in (tree.rooms, lambda: tree.above(0), lambda: tree.holds(("shown", Q))):
                told = ask()
                kept = list(told)
                self.assertIs(type(told), list)
                told.reverse()
                told.append(7)
                self.assertEqual(ask(), kept)
                self.assertIsNot(ask(), ask())

    def test_two_hundred_rooms(self):
        chain = Chain([("p" if k % 3 else "q") for k in range(200)])
        self.assertEqual(len(chain.rooms()), 200)
        self.assertEqual((chain.height(0), chain.height(199)), (199, 0))
        self.assertEqual(chain.above(150), list(range(151, 200)))
        self.assertEqual(chain.holds(P), [k % 3 > 0 for k in range(200)])
        self.assertEqual(chain.holds(("shown", P)), [k >= 198 for k in range(200)])
        for saying in sayings_of_size_120():
            self.assertEqual(chain.holds(saying)[137], chain.worth(saying, 137))
        tree = Tree([(-1, "")] + [((k - 1) // 2, "p" if k % 2 else "") for k in range(1, 200)])
        self.assertEqual(tree.height(0), 7)
        self.assertEqual(tree.above(0), list(range(1, 200)))
        self.assertEqual(tree.holds(("shown", NO)), [2 * k + 1 > 199 for k in range(200)])
        star = Tree([(-1, "")] + [(0, "p")] * 199)
        self.assertEqual(star.holds(("shown", P)), [True] * 200)
        self.assertEqual(star.height(0), 1)


if __name__ == "__main__":
    unittest.main()
