"""What put has told may be handed in again, however great it is."""

import unittest

from selfsay.claims import claim_of, claim_parts, claim_shown, needed
from selfsay.errors import HasLetter, NoSaying
from selfsay.rows import row_of, same_rows, saying_of_row
from selfsay.sayings import depth_of, letters_of, parts_of, put, shown_parts, size_of
from selfsay.texts import read, written
from selfsay.trees import Chain, Tree
from tests.samples import (JOINS, NO, P, Q, R, all_parts, doubled, grown, left_deep, plain_depth, right_deep,
                           sayings_of_size_120, wrapped)


class Size120(unittest.TestCase):
    def test_size_depth_letters(self):
        for saying in sayings_of_size_120():
            self.assertEqual(size_of(saying), 120)
            self.assertEqual(depth_of(saying), plain_depth(saying))
            letters = {part[1] for part in all_parts(saying) if part[0] == "letter"}
            self.assertEqual(letters_of(saying), sorted(letters))

    def test_119_within_one_another(self):
        self.assertEqual(depth_of(wrapped("shown", 119, P)), 119)
        self.assertEqual(len(shown_parts(wrapped("shown", 119, P))), 119)
        self.assertEqual(len(parts_of(wrapped("not", 119, P))), 120)
        self.assertEqual(put(wrapped("not", 119, P), {"p": Q}), wrapped("not", 119, Q))


class Deep(unittest.TestCase):
    def test_not_and_shown(self):
        deep = grown(wrapped("not", 119, P), 7)
        count = 119 * 128
        self.assertEqual(size_of(deep), count + 1)
        self.assertEqual(depth_of(deep), 0)
        self.assertEqual(letters_of(deep), ["p"])
        self.assertEqual(written(deep), "~" * count + "p")
        self.assertEqual(written(read(written(deep))), "~" * count + "p")
        deep = grown(wrapped("shown", 119, P), 7)
        self.assertEqual(depth_of(deep), count)
        self.assertEqual(written(put(deep, {"p": Q})), "[" * count + "q" + "]" * count)

    def test_parts_are_sorted(self):
        deep = grown(wrapped("not", 119, P), 6)
        count = 119 * 64
        self.assertEqual([len(written(part)) for part in parts_of(deep)[:100]], list(range(1, 101)))
        self.assertEqual(len(parts_of(deep)), count + 1)
        deep = grown(wrapped("shown", 119, P), 6)
        self.assertEqual(len(shown_parts(deep)), count)
        self.assertEqual(written(shown_parts(deep)[0]), "[p]")

    def test_parts_between_others_are_sorted(self):
        deep = grown(wrapped("not", 119, P), 4)
        for saying in (("and", ("shown", Q), deep), ("and", deep, ("shown", Q))):
            parts = parts_of(saying)
            self.assertEqual(len(parts), 119 * 16 + 4)
            self.assertEqual(parts[1:3], [P, Q])
            lengths = [len(written(part)) for part in parts[3:-1:50]]
            self.assertEqual(lengths, list(range(2, 119 * 16 + 2, 50)))
            self.assertEqual(parts[-1], ("shown", Q))

    def test_joins_on_either_side(self):
        for word in JOINS:
            deep = grown(left_deep(word, 59), 6)
            joins = 59 * 64
            self.assertEqual(size_of(deep), 2 * joins + 1)
            self.assertEqual(written(deep)[:joins + 2], "(" * joins + "p" + written((word, P, Q))[2])
            self.assertEqual(len(parts_of(deep)), joins + 2)
            deep = grown(right_deep(word, 59), 6)
            self.assertEqual(size_of(deep), 2 * joins + 1)
            self.assertEqual(written(deep)[-joins - 1:], "p" + ")" * joins)
            self.assertEqual(len(parts_of(deep)), joins + 2)

    def test_two_deep_ones_side_by_side(self):
        one = grown(wrapped("not", 119, P), 5)
        other = put(one, {"p": Q})
        self.assertEqual(len(parts_of(("and", one, other))), 2 * size_of(one) + 1)
        self.assertEqual(len(parts_of(("and", one, ("not", one)))), size_of(one) + 2)

    def test_long_texts_are_refused_at_their_place(self):
        text = written(grown(wrapped("shown", 119, P), 6))
        for wrong, place in ((text[:-1], len(text) - 1), (text + "]", len(text)), (text[:-1] + ")", len(text) - 1)):
            with self.assertRaises(NoSaying) as caught:
                read(wrong)
            self.assertEqual(caught.exception.place, place)


class Wide(unittest.TestCase):
    def test_one_part_in_very_many_places(self):
        saying = P
        for _ in range(200):
            saying = put(("and", P, ("shown", P)), {"p": saying})
        self.assertEqual(size_of(saying), 3 * 2 ** 200 - 2)
        self.assertEqual(depth_of(saying), 200)
        self.assertEqual(letters_of(saying), ["p"])
        self.assertEqual(len(parts_of(saying)), 401)
        self.assertEqual(len(shown_parts(saying)), 200)
        self.assertEqual(size_of(put(saying, {"p": ("or", Q, R)})), 5 * 2 ** 200 - 2)

    def test_put_for_its_own_letter(self):
        saying = ("if", P, P)
        for _ in range(7):
            saying = put(saying, {"p": saying})
        self.assertEqual(size_of(saying), 2 ** 129 - 1)
        self.assertEqual(len(parts_of(saying)), 129)

    def test_many_letters_at_once(self):
        saying = ("not", left_deep("or", 59))
        great = put(put(saying, {"q": saying}), {"q": saying})
        self.assertEqual(size_of(great), 1 + 59 + 1 + 59 * (1 + 59 + 1 + 59 * 120))
        text = written(great)
        again = read(text)
        self.assertEqual(again, great)
        self.assertEqual(written(again), text)
        # p and q, and each put brings new ones for the 59 joins and the not.
        self.assertEqual(len(parts_of(great)), 2 + 3 * 60)
        self.assertEqual(parts_of(great), sorted(parts_of(great)))
        self.assertEqual(parts_of(again), parts_of(great))


class High(unittest.TestCase):
    """Sayings that are high and hold their parts in very many places."""

    def test_one_part_put_for_both_letters(self):
        for times in (400, 401, 415, 416, 700):
            saying = doubled(P, times)
            self.assertEqual(size_of(saying), 2 ** (times + 1) - 1)
            self.assertEqual(depth_of(saying), 0)
            self.assertEqual(letters_of(saying), ["p"])

    def test_parts_and_put(self):
        for times in (415, 500):
            saying = doubled(P, times)
            parts = parts_of(saying)
            self.assertEqual(len(parts), times + 1)
            self.assertEqual(parts[-1], P)
            self.assertEqual(size_of(parts[0]), 2 ** (times + 1) - 1)
            self.assertEqual(shown_parts(saying), [])
            self.assertEqual(size_of(put(saying, {"p": ("not", Q)})), 2 ** (times + 1) - 1 + 2 ** times)
            self.assertEqual(letters_of(put(saying, {"p": ("or", R, Q)})), ["q", "r"])
            self.assertEqual(size_of(put(("if", Q, P), {"p": saying})), 2 ** (times + 1) + 1)

    def test_still_higher(self):
        self.assertEqual(size_of(doubled(P, 1500)), 2 ** 1501 - 1)

    def test_other_shapes(self):
        shapes = (("and", P, ("shown", P)), ("if", ("shown", P), P), ("or", ("not", P), P),
                  ("and", ("or", Q, P), ("or", P, R)), ("and", Q, ("or", P, P)), ("and", P, ("or", P, P)),
                  ("and", ("and", P, P), ("and", P, P)), ("or", ("or", P, P), P), ("if", P, ("if", P, P)),
                  ("and", P, ("and", P, ("and", P, P))), ("or", ("and", P, Q), ("and", P, R)))
        for shape in shapes:
            parts = all_parts(shape)
            places = parts.count(P)
            new = len(set(part for part in parts if part[0] != "letter"))
            other = len(set(part for part in parts if part[0] == "letter" and part != P))
            saying, size = P, 1
            for _ in range(250):
                saying = put(shape, {"p": saying})
                size = len(parts) - places + places * size
            self.assertEqual(size_of(saying), size, shape)
            self.assertEqual(depth_of(saying), 250 * plain_depth(shape), shape)
            self.assertEqual(len(parts_of(saying)), 250 * new + other + 1, shape)

    def test_put_for_its_own_letter(self):
        saying = grown(("if", P, P), 9)
        self.assertEqual(size_of(saying), 2 ** 513 - 1)
        self.assertEqual(len(parts_of(saying)), 513)

    def test_two_sayings_put_at_once(self):
        for shape in (("and", P, Q), ("and", Q, P)):
            one, other = P, ("not", P)
            sizes = [1, 2]
            for _ in range(700):
                one, other = other, put(shape, {"p": other, "q": one})
                sizes.append(1 + sizes[-1] + sizes[-2])
            self.assertEqual(size_of(other), sizes[-1])
            self.assertEqual(len(parts_of(other)), 702)

    def test_joins_that_begin_alike(self):
        one, other = P, Q
        for _ in range(300):
            one, other = put(("or", ("and", P, Q), ("and", P, P)), {"p": one, "q": other}), one
        self.assertEqual(len(parts_of(one)), 3 * 300 + 2)
        one, other = P, Q
        for _ in range(1000):
            one, other = put(("and", P, P), {"p": one}), put(("and", P, Q), {"p": one, "q": other})
        self.assertEqual(size_of(("or", one, other)), 2 ** 1002 - 1)

    def test_side_by_side(self):
        for times in (450, 1000):
            one = doubled(P, times)
            other = put(one, {"p": Q})
            saying = ("or", ("and", one, one), ("and", one, ("not", other)))
            self.assertEqual(size_of(saying), 2 ** (times + 3))
        one = doubled(P, 415)
        self.assertEqual(len(parts_of(("and", ("not", one), one))), 418)

    def test_built_separately(self):
        made = [doubled(P, 415) for _ in range(4)]
        self.assertEqual(size_of(("or", made[0], made[1])), 2 ** 417 - 1)
        twice = ("or", ("and", made[0], made[1]), ("and", made[2], made[3]))
        self.assertEqual(size_of(twice), 2 ** 418 - 1)
        self.assertEqual(len(parts_of(twice)), 418)
        self.assertEqual(size_of(put(("if", P, Q), {"p": made[0], "q": made[1]})), 2 ** 417 - 1)

    def test_deep_ones_built_separately(self):
        made = [grown(wrapped("not", 119, P), 5) for _ in range(4)]
        twice = ("or", ("and", made[0], made[1]), ("and", made[2], made[3]))
        for times in (0, 9):
            self.assertEqual(len(parts_of(wrapped("shown", times, twice))), 119 * 32 + 3 + times)

    def test_put_that_changes_nothing(self):
        saying = doubled(P, 415)
        same = [saying, put(saying, {}), put(saying, {"q": R}), put(saying, {"p": P})]
        whole = P
        for each in same * 3:
            whole = ("or", ("and", each, saying), ("not", whole))
        self.assertEqual(len(parts_of(whole)), 416 + 1 + 24)


class GreatInTrees(unittest.TestCase):
    def test_deep(self):
        deep = grown(wrapped("shown", 119, P), 7)
        chain = Chain(["p", "", "pq", ""])
        self.assertEqual(chain.holds(deep), [True] * 4)
        self.assertEqual(chain.holds(("not", deep)), [False] * 4)
        deep = grown(wrapped("not", 119, P), 7)
        self.assertEqual(chain.holds(deep), [True, False, True, False])
        self.assertEqual(chain.holds(("not", deep)), [False, True, False, True])
        self.assertTrue(chain.worth(deep, 2))

    def test_wide(self):
        tree = Tree([(-1, "p")] + [((k - 1) // 2, "p" if k % 3 else "pq") for k in range(1, 200)])
        self.assertEqual(tree.holds(doubled(P, 200)), [True] * 200)
        self.assertEqual(tree.holds(doubled(Q, 200)), tree.holds(Q))
        self.assertEqual(tree.worth(("shown", doubled(Q, 200)), 0), False)
        self.assertEqual(tree.holds(doubled(("not", Q), 500)), tree.holds(("not", Q)))


class GreatRows(unittest.TestCase):
    def test_deep(self):
        deep = put(grown(wrapped("shown", 119, P), 7), {"p": NO})
        row = row_of(deep)
        self.assertEqual(row, [True] * (119 * 128) + [False])
        self.assertTrue(same_rows(row, row + [False] * 9))
        self.assertEqual(row_of(saying_of_row(row)), row)
        self.assertEqual(row_of(("not", deep)), [not truth for truth in row])

    def test_wide(self):
        for times in (200, 500):
            self.assertEqual(row_of(doubled(("shown", NO), times)), [True, False])
        with self.assertRaises(HasLetter) as caught:
            row_of(doubled(("or", R, ("shown", Q)), 200))
        self.assertEqual(caught.exception.letter, "q")

    def test_many_truths(self):
        row = [k % 3 == 0 for k in range(300)]
        saying = saying_of_row(row)
        self.assertTrue(same_rows(row_of(saying), row))
        self.assertTrue(same_rows(row_of(saying_of_row(row_of(saying))), row))


class GreatClaims(unittest.TestCase):
    def test_deep(self):
        one, other = grown(wrapped("shown", 119, P), 5), grown(wrapped("not", 119, P), 5)
        claim = claim_of([one, other, one, ("and", other, one)], [("shown", other), one])
        self.assertEqual([saying[0] for saying in claim[0]], ["and", "not", "shown"])
        self.assertEqual([written(saying)[:2] for saying in claim[1]], ["[~", "[["])
        count = 119 * 32
        self.assertEqual(len(claim_parts(claim)), 2 * count + 3)
        self.assertEqual(len(claim_shown(claim)), count + 1)
        self.assertEqual(needed(claim, "same", one), [])
        told = needed(claim, "up", ("shown", other))
        self.assertEqual([[len(written(saying)) for saying in side] for side in told[0]],
                         [[count + 3, 2 * count - 1, 2 * count + 1], [count + 1]])

    def test_wide(self):
        one, other = doubled(P, 200), doubled(Q, 200)
        claim = claim_of([one, other, P, one], [("not", one), ("shown", other), ("not", one)])
        self.assertEqual([len(side) for side in claim], [3, 2])
        self.assertEqual(len(claim_parts(claim)), 2 * 201 + 2)
        told = needed(claim, "right", ("not", one))
        self.assertEqual([len(side) for side in told[0]], [3, 1])
        told = needed(claim, "left", one)
        self.assertEqual([size_of(saying) for saying in told[0][0]], [2 ** 201 - 1, 2 ** 200 - 1, 1])
        self.assertEqual(len(told[0][1]), 2)

    def test_high(self):
        one, other = doubled(P, 500), doubled(P, 500)
        claim = claim_of([one, other], [("shown", other), other])
        self.assertEqual([len(side) for side in claim], [1, 2])
        self.assertEqual(len(claim_parts(claim)), 502)
        self.assertEqual(needed(claim, "same", doubled(P, 500)), [])
        self.assertEqual([len(side) for side in needed(claim, "left", one)[0]], [1, 2])
        self.assertEqual([len(side) for side in needed(claim, "up", ("shown", one))[0]], [1, 1])


if __name__ == "__main__":
    unittest.main()
