"""What put has told may be handed in again, however great it is."""

import unittest

from selfsay.errors import NoSaying
from selfsay.sayings import depth_of, letters_of, parts_of, put, shown_parts, size_of
from selfsay.texts import read, written
from tests.samples import (JOINS, P, Q, R, all_parts, left_deep, plain_depth, right_deep,
                           sayings_of_size_120, wrapped)


class Size120(unittest.TestCase):
    def test_size_depth_letters(self):
        for saying in sayings_of_size_120():
            self.assertEqual(size_of(saying), 120)
            self.assertEqual(depth_of(saying), plain_depth(saying))
            letters = {part[1] for part in all_parts(saying) if part[0] == "letter"}
            self.assertEqual(letters_of(saying), sorted(letters))

    def test_119_within_one_another(self):
        self.assertEqual(depth_of(wrapped("shown", 119, P)), 119)
        self.assertEqual(len(shown_parts(wrapped("shown", 119, P))), 119)
        self.assertEqual(len(parts_of(wrapped("not", 119, P))), 120)
        self.assertEqual(put(wrapped("not", 119, P), {"p": Q}), wrapped("not", 119, Q))


class Deep(unittest.TestCase):
    def grown(self, saying, times):
        """The saying put for its own p again and again, twice as deep each time."""
        for _ in range(times):
            saying = put(saying, {"p": saying})
        return saying

    def test_not_and_shown(self):
        deep = self.grown(wrapped("not", 119, P), 7)
        count = 119 * 128
        self.assertEqual(size_of(deep), count + 1)
        self.assertEqual(depth_of(deep), 0)
        self.assertEqual(letters_of(deep), ["p"])
        self.assertEqual(written(deep), "~" * count + "p")
        self.assertEqual(written(read(written(deep))), "~" * count + "p")
        deep = self.grown(wrapped("shown", 119, P), 7)
        self.assertEqual(depth_of(deep), count)
        self.assertEqual(written(put(deep, {"p": Q})), "[" * count + "q" + "]" * count)

    def test_parts_are_sorted(self):
        deep = self.grown(wrapped("not", 119, P), 6)
        count = 119 * 64
        self.assertEqual([len(written(part)) for part in parts_of(deep)[:100]], list(range(1, 101)))
        self.assertEqual(len(parts_of(deep)), count + 1)
        deep = self.grown(wrapped("shown", 119, P), 6)
        self.assertEqual(len(shown_parts(deep)), count)
        self.assertEqual(written(shown_parts(deep)[0]), "[p]")

    def test_parts_between_others_are_sorted(self):
        deep = self.grown(wrapped("not", 119, P), 4)
        for saying in (("and", ("shown", Q), deep), ("and", deep, ("shown", Q))):
            parts = parts_of(saying)
            self.assertEqual(len(parts), 119 * 16 + 4)
            self.assertEqual(parts[1:3], [P, Q])
            lengths = [len(written(part)) for part in parts[3:-1:50]]
            self.assertEqual(lengths, list(range(2, 119 * 16 + 2, 50)))
            self.assertEqual(parts[-1], ("shown", Q))

    def test_joins_on_either_side(self):
        for word in JOINS:
            deep = self.grown(left_deep(word, 59), 6)
            joins = 59 * 64
            self.assertEqual(size_of(deep), 2 * joins + 1)
            self.assertEqual(written(deep)[:joins + 2], "(" * joins + "p" + written((word, P, Q))[2])
            self.assertEqual(len(parts_of(deep)), joins + 2)
            deep = self.grown(right_deep(word, 59), 6)
            self.assertEqual(size_of(deep), 2 * joins + 1)
            self.assertEqual(written(deep)[-joins - 1:], "p" + ")" * joins)
            self.assertEqual(len(parts_of(deep)), joins + 2)

    def test_two_deep_ones_side_by_side(self):
        one = self.grown(wrapped("not", 119, P), 5)
        other = put(one, {"p": Q})
        self.assertEqual(len(parts_of(("and", one, other))), 2 * size_of(one) + 1)
        self.assertEqual(len(parts_of(("and", one, ("not", one)))), size_of(one) + 2)

    def test_long_texts_are_refused_at_their_place(self):
        text = written(self.grown(wrapped("shown", 119, P), 6))
        for wrong, place in ((text[:-1], len(text) - 1), (text + "]", len(text)), (text[:-1] + ")", len(text) - 1)):
            with self.assertRaises(NoSaying) as caught:
                read(wrong)
            self.assertEqual(caught.exception.place, place)


class Wide(unittest.TestCase):
    def test_one_part_in_very_many_places(self):
        saying = P
        for _ in range(200):
            saying = put(("and", P, ("shown", P)), {"p": saying})
        self.assertEqual(size_of(saying), 3 * 2 ** 200 - 2)
        self.assertEqual(depth_of(saying), 200)
        self.assertEqual(letters_of(saying), ["p"])
        self.assertEqual(len(parts_of(saying)), 401)
        self.assertEqual(len(shown_parts(saying)), 200)
        self.assertEqual(size_of(put(saying, {"p": ("or", Q, R)})), 5 * 2 ** 200 - 2)

    def test_put_for_its_own_letter(self):
        saying = ("if", P, P)
        for _ in range(7):
            saying = put(saying, {"p": saying})
        self.assertEqual(size_of(saying), 2 ** 129 - 1)
        self.assertEqual(len(parts_of(saying)), 129)

    def test_many_letters_at_once(self):
        saying = ("not", left_deep("or", 59))
        great = put(put(saying, {"q": saying}), {"q": saying})
        self.assertEqual(size_of(great), 1 + 59 + 1 + 59 * (1 + 59 + 1 + 59 * 120))
        text = written(great)
        again = read(text)
        self.assertEqual(again, great)
        self.assertEqual(written(again), text)
        # p and q, and each put brings new ones for the 59 joins and the not.
        self.assertEqual(len(parts_of(great)), 2 + 3 * 60)
        self.assertEqual(parts_of(great), sorted(parts_of(great)))
        self.assertEqual(parts_of(again), parts_of(great))


if __name__ == "__main__":
    unittest.main()
