import unittest

from selfsay.claims import claim_of, claim_parts, claim_shown, needed
from selfsay.errors import NoRule, SayError
from selfsay.sayings import yes
from tests.samples import (JOINS, NO, P, Q, R, all_parts, plain_worth, sayings_of_size_120, small_sayings,
                           some_sayings, some_trees)

A = ("shown", P)
B = ("and", Q, ("not", R))
RULES = ("same", "never", "left", "right", "up")


def plain_claim(left, right):
    return (sorted(set(left)), sorted(set(right)))


def fails(rooms, claim, room):
    return (all(plain_worth(rooms, saying, room) for saying in claim[0])
            and not any(plain_worth(rooms, saying, room) for saying in claim[1]))


class Claims(unittest.TestCase):
    def test_empty_lists(self):
        self.assertEqual(claim_of([], []), ([], []))
        self.assertEqual(claim_of([P], []), ([P], []))
        self.assertEqual(claim_of([], [P]), ([], [P]))

    def test_any_order_and_doubles(self):
        self.assertEqual(claim_of([Q, P, Q, P], [NO, A, NO]), ([P, Q], [NO, A]))
        self.assertEqual(claim_of([A, B, P, A], [R, R, R]), ([B, P, A], [R]))
        self.assertEqual(claim_of([P], [P]), ([P], [P]))

    def test_sorted_as_python_sorts_them(self):
        small = small_sayings(3)
        for step in (1, 3, 7, 11):
            left = [small[k * step % len(small)] for k in range(60)]
            right = [small[k * step % len(small)] for k in range(40, 100)]
            self.assertEqual(claim_of(left + left[:9], right[::-1] + right), plain_claim(left, right))
        self.assertEqual(claim_of(sayings_of_size_120(), sayings_of_size_120()[::-1]),
                         plain_claim(sayings_of_size_120(), sayings_of_size_120()))

    def test_kinds(self):
        claim = claim_of([Q, P], [R])
        self.assertEqual([type(claim), type(claim[0]), type(claim[1])], [tuple, list, list])

    def test_parts(self):
        claim = claim_of([A, B], [("shown", A), Q])
        self.assertEqual(claim_parts(claim), [B, P, Q, R, ("not", R), A, ("shown", A)])
        self.assertEqual(claim_shown(claim), [A, ("shown", A)])
        self.assertEqual(claim_parts(([], [])), [])
        self.assertEqual(claim_shown(([], [])), [])
        self.assertEqual(claim_shown(([P], [Q])), [])
        self.assertEqual(claim_parts(([], [("not", P)])), [P, ("not", P)])

    def test_parts_of_both_sides(self):
        for seed in range(10):
            claim = plain_claim(some_sayings(seed, 6, 9), some_sayings(seed + 100, 5, 11))
            parts = sorted({part for side in claim for saying in side for part in all_parts(saying)})
            self.assertEqual(claim_parts(claim), parts)
            self.assertEqual(claim_shown(claim), [part for part in parts if part[0] == "shown"])


class Needing(unittest.TestCase):
    def test_same(self):
        for saying in small_sayings(3):
            self.assertEqual(needed(plain_claim([saying, P], [saying, Q]), "same", saying), [])

    def test_never(self):
        self.assertEqual(needed(([NO], []), "never", NO), [])
        self.assertEqual(needed(([P, NO, A], [Q]), "never", NO), [])
        self.assertEqual(needed(([NO], [NO]), "never", NO), [])

    def test_left(self):
        left, right = [P, A], [Q]
        cases = ((("not", R), [([P, A], [Q, R])]),
                 (("and", R, NO), [([P, R, NO, A], [Q])]),
                 (("or", R, NO), [([P, R, A], [Q]), ([P, NO, A], [Q])]),
                 (("if", R, NO), [([P, A], [Q, R]), ([P, NO, A], [Q])]),
                 (("if", NO, R), [([P, A], [Q, NO]), ([P, R, A], [Q])]),
                 (("or", NO, R), [([P, NO, A], [Q]), ([P, R, A], [Q])]))
        for saying, told in cases:
            claim = plain_claim(left + [saying], right)
            self.assertEqual(needed(claim, "left", saying), told, saying)

    def test_right(self):
        left, right = [P, A], [Q]
        cases = ((("not", R), [([P, R, A], [Q])]),
                 (("and", R, NO), [([P, A], [Q, R]), ([P, A], [Q, NO])]),
                 (("and", NO, R), [([P, A], [Q, NO]), ([P, A], [Q, R])]),
                 (("or", R, NO), [([P, A], [Q, R, NO])]),
                 (("if", R, NO), [([P, R, A], [Q, NO])]),
                 (("if", NO, R), [([P, NO, A], [Q, R])]))
        for saying, told in cases:
            claim = plain_claim(left, right + [saying])
            self.assertEqual(needed(claim, "right", saying), told, saying)

    def test_what_stands_there_already_comes_once(self):
        saying = ("and", P, P)
        self.assertEqual(needed(([saying], []), "left", saying), [([P], [])])
        self.assertEqual(needed(([saying, P], [P]), "left", saying), [([P], [P])])
        self.assertEqual(needed(([], [saying, P]), "right", saying), [([], [P]), ([], [P])])
        saying = ("or", Q, Q)
        self.assertEqual(needed(([saying], [Q]), "left", saying), [([Q], [Q]), ([Q], [Q])])
        self.assertEqual(needed(([P], [Q, saying]), "right", saying), [([P], [Q])])
        saying = ("if", P, P)
        self.assertEqual(needed(([P], [saying, P]), "right", saying), [([P], [P])])

    def test_up(self):
        self.assertEqual(needed(([], [A]), "up", A), [([A], [P])])
        self.assertEqual(needed(([P, Q], [R, A]), "up", A), [([A], [P])])
        self.assertEqual(needed(([A], [A]), "up", A), [([P, A], [P])])
        one, other = ("shown", Q), ("shown", ("not", A))
        self.assertEqual(needed(plain_claim([one, R, other], [A, P, ("shown", R)]), "up", A),
                         [plain_claim([Q, one, ("not", A), other, A], [P])])
        self.assertEqual(needed(plain_claim([one], [("shown", one)]), "up", ("shown", one)),
                         [plain_claim([Q, one, ("shown", one)], [one])])
        # A shown saying within another one of left is no saying of left.
        self.assertEqual(needed(plain_claim([("not", one)], [A]), "up", A), [([A], [P])])

    def test_a_saying_on_both_sides(self):
        for saying in (("not", P), ("and", P, Q), ("or", P, Q), ("if", P, Q)):
            claim = ([saying], [saying])
            self.assertEqual(needed(claim, "same", saying), [])
            for each in needed(claim, "left", saying):
                self.assertNotIn(saying, each[0])
                self.assertIn(saying, each[1])
            for each in needed(claim, "right", saying):
                self.assertIn(saying, each[0])
                self.assertNotIn(saying, each[1])
        self.assertEqual(needed(([("not", P)], [("not", P)]), "left", ("not", P)), [([], [P, ("not", P)])])
        self.assertEqual(needed(([("not", P)], [("not", P)]), "right", ("not", P)), [([P, ("not", P)], [])])

    def test_needed_claims_are_claims(self):
        for seed in range(20):
            claim = plain_claim(some_sayings(seed, 8, 6), some_sayings(seed + 50, 8, 6))
            for rule in RULES:
                for saying in claim[0] + claim[1]:
                    try:
                        told = needed(claim, rule, saying)
                    except NoRule:
                        continue
                    for each in told:
                        self.assertEqual(each, plain_claim(each[0], each[1]))

    def test_a_room_where_the_claim_fails(self):
        # Where a claim fails in a room one of what it needs fails in it, or, for up, in one further up.
        for rooms in some_trees(1, 5, 6):
            for seed in range(15):
                claim = plain_claim(some_sayings(seed, 2, 4), some_sayings(seed + 70, 2, 5))
                for rule in RULES:
                    for saying in claim[0] + claim[1]:
                        self.assert_failing_is_handed_on(rooms, claim, rule, saying)

    def assert_failing_is_handed_on(self, rooms, claim, rule, saying):
        try:
            told = needed(claim, rule, saying)
        except NoRule:
            return
        failing = [room for room in range(len(rooms)) if fails(rooms, claim, room)]
        for room in failing:
            wider = range(len(rooms)) if rule == "up" else [room]
            self.assertTrue(any(fails(rooms, each, k) for each in told for k in wider), (claim, rule, saying))


class Refused(unittest.TestCase):
    def assert_refused(self, claim, rule, saying):
        with self.assertRaises(SayError, msg=(claim, rule, saying)) as caught:
            needed(claim, rule, saying)
        self.assertIs(type(caught.exception), NoRule)

    def test_another_word(self):
        claim = plain_claim([NO, P, ("not", P), A], [P, NO, ("not", P), A])
        for rule in ("", "Same", "both", "left ", " up", "leftright", "no", "shown", "nothing at all ~"):
            for saying in claim[0]:
                self.assert_refused(claim, rule, saying)
            self.assert_refused(([], []), rule, P)

    def test_same(self):
        self.assert_refused(([P], [Q]), "same", P)
        self.assert_refused(([P], [Q]), "same", Q)
        self.assert_refused(([P], [P]), "same", R)
        self.assert_refused(([("not", P)], [("not", P)]), "same", P)
        self.assert_refused(([], []), "same", P)

    def test_never(self):
        self.assert_refused(([], [NO]), "never", NO)
        self.assert_refused(([P], [NO]), "never", NO)
        self.assert_refused(([P, NO], []), "never", P)
        self.assert_refused(([yes()], []), "never", yes())
        self.assert_refused(([yes()], []), "never", NO)

    def test_left_and_right(self):
        for saying in (("not", P), ("and", P, Q), ("or", P, Q), ("if", P, Q)):
            self.assert_refused(([], [saying]), "left", saying)
            self.assert_refused(([saying], []), "right", saying)
            for rule in ("left", "right"):
                self.assert_refused(([], []), rule, saying)
                self.assert_refused(([("shown", saying)], [("shown", saying)]), rule, saying)
        for saying in (NO, P, Q, R, A, ("shown", ("not", P))):
            for rule in ("left", "right"):
                self.assert_refused(([saying], [saying]), rule, saying)

    def test_up(self):
        self.assert_refused(([A], []), "up", A)
        self.assert_refused(([A], [P]), "up", A)
        self.assert_refused(([A], [A]), "up", ("shown", Q))
        for saying in (NO, P, ("not", A), ("and", A, A), ("or", A, A), ("if", A, A)):
            self.assert_refused(([saying], [saying]), "up", saying)


class Keeping(unittest.TestCase):
    def test_what_is_handed_in_stays(self):
        left, right = [Q, P, Q, ("not", A)], [A, NO, A]
        claim = claim_of(left, right)
        self.assertEqual((left, right), ([Q, P, Q, ("not", A)], [A, NO, A]))
        kept = (list(claim[0]), list(claim[1]))
        claim_parts(claim)
        claim_shown(claim)
        needed(claim, "up", A)
        needed(claim, "left", ("not", A))
        self.assertRaises(NoRule, needed, claim, "same", P)
        self.assertEqual(claim, kept)

    def test_changing_it_afterwards_changes_nothing(self):
        left, right = [Q, P], [A]
        claim = claim_of(left, right)
        left.clear()
        right.append(R)
        self.assertEqual(claim, ([P, Q], [A]))
        told = needed(claim, "up", A)
        claim[0].append(R)
        claim[1].clear()
        self.assertEqual(told, [([A], [P])])

    def test_changing_what_is_told_changes_nothing(self):
        saying = ("or", P, Q)
        claim = ([saying, R], [A, ("not", Q)])
        asks = (lambda: claim_of([Q, P], [A]), lambda: needed(claim, "left", saying),
                lambda: needed(claim, "up", A), lambda: claim_parts(claim), lambda: claim_shown(claim))
        for ask in asks:
            first = ask()
            kept = repr(first)
            for inner in first:
                if isinstance(inner, list):
                    inner.append(NO)
                elif isinstance(inner[0], list):
                    inner[0].append(NO)
                    inner[1].clear()
            self.assertEqual(repr(ask()), kept)
        self.assertEqual(claim, ([saying, R], [A, ("not", Q)]))

    def test_the_needed_claims_share_no_list(self):
        for word in ("or", "if"):
            claim = ([(word, P, Q)], [R])
            one, other = needed(claim, "left", (word, P, Q))
            kept = repr(other)
            one[0].append(NO)
            one[1].append(NO)
            self.assertEqual(repr(other), kept)
            self.assertEqual(claim, ([(word, P, Q)], [R]))

    def test_two_hundred_at_a_side(self):
        left, right = some_sayings(1, 220, 7), some_sayings(2, 220, 8)
        claim = claim_of(left, right)
        self.assertEqual(claim, plain_claim(left, right))
        self.assertGreater(len(claim[0]), 180)
        parts = sorted({part for saying in left + right for part in all_parts(saying)})
        self.assertEqual(claim_parts(claim), parts)
        for word in JOINS + ("not",):
            saying = [each for each in claim[0] if each[0] == word][0]
            for each in needed(claim, "left", saying):
                self.assertEqual(each, plain_claim(each[0], each[1]))
        saying = [each for each in claim[1] if each[0] == "shown"][-1]
        shown = [each for each in claim[0] if each[0] == "shown"]
        self.assertEqual(needed(claim, "up", saying),
                         [plain_claim([saying] + shown + [each[1] for each in shown], [saying[1]])])

    def test_sayings_of_size_120(self):
        sayings = some_sayings(3, 60, 120)
        claim = claim_of(sayings, sayings[::-1])
        self.assertEqual(claim, plain_claim(sayings, sayings))
        for saying in claim[0][::7]:
            self.assertEqual(needed(claim, "same", saying), [])


if __name__ == "__main__":
    unittest.main()
