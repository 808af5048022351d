import itertools
import unittest

from selfsay.errors import HasLetter, SayError
from selfsay.rows import row_of, same_rows, saying_of_row
from selfsay.sayings import depth_of, letters_of, yes
from selfsay.trees import Tree
from tests.samples import (JOINS, NO, P, Q, R, plain_row, small_sayings, some_sayings, some_trees, wrapped)

SHOWN_NO = ("shown", NO)
LETTERLESS = [saying for saying in small_sayings(5) if not letters_of(saying)]


class Rows(unittest.TestCase):
    def test_depth_0(self):
        self.assertEqual(row_of(NO), [False])
        self.assertEqual(row_of(yes()), [True])
        self.assertEqual(row_of(("if", NO, NO)), [True])
        self.assertEqual(row_of(("and", yes(), NO)), [False])
        self.assertEqual(row_of(("or", yes(), NO)), [True])

    def test_depth_1(self):
        self.assertEqual(row_of(SHOWN_NO), [True, False])
        self.assertEqual(row_of(("not", SHOWN_NO)), [False, True])
        self.assertEqual(row_of(("shown", yes())), [True, True])
        self.assertEqual(row_of(("if", SHOWN_NO, NO)), [False, True])

    def test_depth_2(self):
        self.assertEqual(row_of(("shown", SHOWN_NO)), [True, True, False])
        self.assertEqual(row_of(("shown", ("not", SHOWN_NO))), [True, False, False])
        self.assertEqual(row_of(("and", ("shown", SHOWN_NO), ("not", SHOWN_NO))), [False, True, False])
        self.assertEqual(row_of(("shown", ("if", SHOWN_NO, NO))), [True, False, False])

    def test_more(self):
        inner = ("shown", ("or", ("shown", SHOWN_NO), NO))
        self.assertEqual(row_of(("not", inner)), [False, False, False, True])
        self.assertEqual(row_of(("if", ("shown", ("if", SHOWN_NO, NO)), SHOWN_NO)), [True, True, True])
        self.assertEqual(row_of(wrapped("shown", 5, NO)), [True] * 5 + [False])

    def test_as_long_as_the_depth_and_one(self):
        for saying in LETTERLESS + some_sayings(1, 100, 40, (NO,)):
            row = row_of(saying)
            self.assertEqual(len(row), depth_of(saying) + 1)
            self.assertEqual(row, plain_row(saying), saying)
            self.assertEqual({type(truth) for truth in row} - {bool}, set())

    def test_a_room_of_each_height(self):
        for rooms in some_trees(2, 6, 25):
            tree = Tree(rooms)
            for saying in some_sayings(3, 30, 20, (NO,)):
                row = row_of(saying)
                told = [row[min(tree.height(k), len(row) - 1)] for k in range(25)]
                self.assertEqual(tree.holds(saying), told, (rooms, saying))

    def test_size_120(self):
        self.assertEqual(row_of(wrapped("shown", 119, NO)), [True] * 119 + [False])
        self.assertEqual(row_of(wrapped("not", 119, NO)), [True])
        self.assertEqual(row_of(("not", wrapped("shown", 118, NO))), [False] * 118 + [True])
        for saying in some_sayings(4, 10, 120, (NO,)):
            self.assertEqual(len(row_of(saying)), depth_of(saying) + 1)

    def test_letters_are_refused(self):
        cases = ((P, "p"), (Q, "q"), (R, "r"), (("and", R, Q), "q"), (("or", R, ("shown", P)), "p"),
                 (("if", Q, ("not", P)), "p"), (("shown", R), "r"), (("and", R, NO), "r"),
                 (wrapped("shown", 119, Q), "q"), (("and", ("and", R, Q), P), "p"))
        for saying, letter in cases:
            with self.assertRaises(SayError) as caught:
                row_of(saying)
            self.assertIs(type(caught.exception), HasLetter)
            self.assertEqual(caught.exception.letter, letter)
            self.assertEqual(row_of(SHOWN_NO), [True, False])

    def test_a_letter_that_changes_nothing_is_refused_too(self):
        for word in JOINS:
            self.assertRaises(HasLetter, row_of, (word, NO, P))
        self.assertRaises(HasLetter, row_of, ("or", P, ("not", P)))

    def test_a_changed_row_changes_nothing(self):
        row = row_of(SHOWN_NO)
        row.append(True)
        row[0] = False
        self.assertEqual(row_of(SHOWN_NO), [True, False])
        self.assertIsNot(row_of(SHOWN_NO), row_of(SHOWN_NO))


def rows(length):
    return [list(row) for row in itertools.product((False, True), repeat=length)]


class SameRows(unittest.TestCase):
    def test_of_one_length(self):
        for length in (1, 2, 3, 4):
            for one in rows(length):
                for other in rows(length):
                    self.assertIs(same_rows(one, other), one == other)

    def test_the_last_truth_told_over_again(self):
        for row in rows(1) + rows(2) + rows(4):
            for times in (1, 2, 15):
                longer = row + [row[-1]] * times
                self.assertIs(same_rows(row, longer), True)
                self.assertIs(same_rows(longer, row), True)

    def test_one_truth_turned(self):
        for row in rows(1) + rows(3):
            for times in (0, 1, 5):
                longer = row + [row[-1]] * times
                for place in range(len(longer)):
                    turned = list(longer)
                    turned[place] = not turned[place]
                    self.assertIs(same_rows(row, turned), False, (row, turned))
                    self.assertIs(same_rows(turned, row), False, (row, turned))

    def test_of_unlike_lengths(self):
        for one in rows(1) + rows(2) + rows(3):
            for other in rows(1) + rows(3) + rows(4):
                alike = all(one[min(k, len(one) - 1)] == other[min(k, len(other) - 1)] for k in range(5))
                self.assertIs(same_rows(one, other), alike)

    def test_what_is_handed_in_stays(self):
        one, other = [True, False], [True, False, False, False]
        self.assertTrue(same_rows(one, other))
        self.assertEqual((one, other), ([True, False], [True, False, False, False]))
        other.append(True)
        self.assertFalse(same_rows(one, other))


class SayingsOfRows(unittest.TestCase):
    def assert_told(self, row):
        handed = list(row)
        saying = saying_of_row(handed)
        self.assertEqual(handed, row)
        self.assertEqual(letters_of(saying), [])
        self.assertTrue(same_rows(row_of(saying), row), row)
        self.assertEqual(saying_of_row(row), saying)

    def test_all_short_rows(self):
        for length in range(1, 9):
            for row in rows(length):
                self.assert_told(row)

    def test_rows_of_up_to_twenty(self):
        for length in range(9, 21):
            for step in (2, 3, 7):
                self.assert_told([k % step == 0 for k in range(length)])
                self.assert_told([k % step > 0 for k in range(length)])
            for place in range(length):
                self.assert_told([k == place for k in range(length)])
                self.assert_told([k != place for k in range(length)])
                self.assert_told([k < place for k in range(length)])

    def test_it_is_a_saying(self):
        for row in rows(6):
            told = saying_of_row(row)
            plain = plain_row(told)
            self.assertTrue(same_rows(plain, row))
            self.assertIs(type(told), tuple)

    def test_changing_the_row_afterwards(self):
        row = [True, False, True]
        saying = saying_of_row(row)
        row[2] = False
        self.assertTrue(same_rows(row_of(saying), [True, False, True]))
        self.assertEqual(saying_of_row([True, False, True]), saying)

    def test_a_told_row_is_handed_in_again(self):
        row = row_of(wrapped("shown", 119, NO))
        self.assert_told(row)
        self.assertTrue(same_rows(row, row_of(saying_of_row(row))))


if __name__ == "__main__":
    unittest.main()
