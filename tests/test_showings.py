import unittest

from selfsay.claims import claim_of
from selfsay.sayings import put
from selfsay.searching import searched
from selfsay.showings import shows
from selfsay.texts import read
from tests.samples import NO, P, Q, R, doubled, wrapped

A = ("shown", P)
IMPLIES = ("if", P, P)


def r(text):
    return read(text)


def changed(steps, number, place, value):
    """The steps with another value at a place of one of them."""
    step = list(steps[number])
    step[place] = value
    return steps[:number] + [tuple(step)] + steps[number + 1:]


SAME = [([P], [P], "same", P, [])]
# [p] follows from [(p&q)].
LONGER = [
    ([r("[(p&q)]"), r("[p]"), P, Q], [P], "same", P, []),
    ([r("[(p&q)]"), r("[p]"), r("(p&q)")], [P], "left", r("(p&q)"), [0]),
    ([r("[(p&q)]")], [r("[p]")], "up", r("[p]"), [1]),
    ([], [r("([(p&q)]>[p])")], "right", r("([(p&q)]>[p])"), [2]),
]
LONGER = [(sorted(step[0]), sorted(step[1])) + step[2:] for step in LONGER]
WHOLE = ([], [r("([(p&q)]>[p])")])
# (p|q) at the left and (q|p) at the right: two claims are needed.
TWO = [
    ([P], [P, Q], "same", P, []),
    ([Q], [P, Q], "same", Q, []),
    ([("or", P, Q)], [P, Q], "left", ("or", P, Q), [0, 1]),
    ([("or", P, Q)], [("or", Q, P)], "right", ("or", Q, P), [2]),
]
TWO_CLAIM = ([("or", P, Q)], [("or", Q, P)])


class RightOnes(unittest.TestCase):
    def assert_shows(self, steps, claim):
        self.assertIs(shows(steps, claim), True, (steps, claim))

    def test_same(self):
        self.assert_shows(SAME, ([P], [P]))
        self.assert_shows([([NO, A], [Q, A], "same", A, [])], ([NO, A], [Q, A]))

    def test_never(self):
        self.assert_shows([([NO], [], "never", NO, [])], ([NO], []))
        self.assert_shows([([P, NO], [Q], "never", NO, [])], ([P, NO], [Q]))

    def test_left(self):
        for saying, needs in ((("not", P), [([P], [P, Q])]), (("and", P, Q), [([P, Q], [P, Q])]),
                              (("or", P, Q), [([P], [P, Q]), ([P, Q], [P, Q])]),
                              (("if", R, Q), [([P], [P, Q, R]), ([P, Q], [P, Q])])):
            left = sorted({saying, P})
            steps = [need + ("same", P, []) for need in needs]
            whole = (left, [P, Q])
            self.assert_shows(steps + [whole + ("left", saying, list(range(len(needs))))], whole)

    def test_right(self):
        for saying, needs in ((("not", R), [([P, R], [P])]), (("and", R, Q), [([P], [P, R]), ([P], [P, Q])]),
                              (("or", R, Q), [([P], [P, Q, R])]), (("if", R, Q), [([P, R], [P, Q])])):
            steps = [need + ("same", P, []) for need in needs]
            whole = ([P], sorted([saying, P]))
            self.assert_shows(steps + [whole + ("right", saying, list(range(len(needs))))], whole)

    def test_up(self):
        self.assert_shows(LONGER, WHOLE)
        self.assert_shows(LONGER[:3], ([r("[(p&q)]")], [r("[p]")]))
        self.assert_shows(LONGER[:1], (LONGER[0][0], LONGER[0][1]))

    def test_two_needed(self):
        self.assert_shows(TWO, TWO_CLAIM)
        self.assert_shows([TWO[1], TWO[0], TWO[2][:4] + ([1, 0],), TWO[3]], TWO_CLAIM)

    def test_one_step_used_twice(self):
        saying = ("or", P, P)
        self.assert_shows(SAME + [([saying], [P], "left", saying, [0, 0])], ([saying], [P]))

    def test_a_right_step_that_nothing_uses(self):
        self.assert_shows(TWO[:1] + SAME + [([NO], [], "never", NO, [])] + [
            TWO[1], TWO[2][:4] + ([0, 3],), TWO[3][:4] + ([4],)], TWO_CLAIM)

    def test_a_step_told_twice(self):
        self.assert_shows(SAME * 200, ([P], [P]))


class WrongOnes(unittest.TestCase):
    def assert_wrong(self, steps, claim):
        self.assertIs(shows(steps, claim), False, (steps, claim))

    def test_empty(self):
        self.assert_wrong([], ([], []))
        self.assert_wrong([], ([P], [P]))

    def test_another_claim_at_the_end(self):
        for claim in (([], [P]), ([P], []), ([P], [Q]), ([P, Q], [P]), ([Q], [Q]), ([P], [P, Q]), ([P, P], [P])):
            self.assert_wrong(SAME, claim)
        self.assert_wrong(TWO[:3], TWO_CLAIM)
        self.assert_wrong(TWO + SAME, TWO_CLAIM)

    def test_claims_that_are_none(self):
        self.assert_wrong([([Q, P], [P], "same", P, [])], ([Q, P], [P]))
        self.assert_wrong([([Q, P], [P], "same", P, [])], ([P, Q], [P]))
        self.assert_wrong([([P, Q], [P], "same", P, [])], ([Q, P], [P]))
        self.assert_wrong([([P, P], [P], "same", P, [])], ([P, P], [P]))
        self.assert_wrong([([P, P], [P], "same", P, [])], ([P], [P]))

    def test_uses_that_are_no_earlier_steps(self):
        for uses in ([0], [2], [3], [4], [-1], [-2], [-3], [10 ** 59], [-10 ** 59]):
            self.assert_wrong(changed(LONGER, 2, 4, uses), WHOLE)
        for uses in ([-4, 1], [0, -3], [2, 1], [0, 2], [0, 3], [7, 1]):
            self.assert_wrong(changed(TWO, 2, 4, uses), TWO_CLAIM)
        saying = ("not", ("not", P))
        around = [([saying], [P], "left", saying, [1]), ([], [P, ("not", P)], "right", ("not", P), [2]),
                  ([P], [P], "same", P, [])]
        self.assert_wrong(around, ([P], [P]))

    def test_too_few_or_too_many_uses(self):
        for uses in ([], [1, 1], [1, 0], [0, 1, 1]):
            self.assert_wrong(changed(LONGER, 2, 4, uses), WHOLE)
        for uses in ([], [0], [1], [0, 1, 1], [0, 0, 1]):
            self.assert_wrong(changed(TWO, 2, 4, uses), TWO_CLAIM)
        self.assert_wrong(SAME + [([P], [P], "same", P, [0])], ([P], [P]))

    def test_wrong_order_of_uses(self):
        self.assert_wrong(changed(TWO, 2, 4, [1, 0]), TWO_CLAIM)

    def test_a_used_step_of_another_claim(self):
        self.assert_wrong(changed(TWO, 2, 4, [0, 0]), TWO_CLAIM)
        self.assert_wrong(changed(LONGER, 3, 4, [1]), WHOLE)

    def test_words_that_are_no_rule(self):
        for rule in ("", "Same", "same ", " up", "both", "leftright", "no", "nothing of all that ~"):
            for number in range(4):
                self.assert_wrong(changed(LONGER, number, 2, rule), WHOLE)
            self.assert_wrong(changed(SAME, 0, 2, rule), ([P], [P]))

    def test_a_rule_that_does_not_fit(self):
        for number, rule in ((0, "never"), (0, "up"), (1, "right"), (1, "same"), (2, "left"), (2, "right"),
                             (3, "left"), (3, "up")):
            self.assert_wrong(changed(LONGER, number, 2, rule), WHOLE)
        for saying in (Q, NO, ("shown", Q), ("not", P), r("([p]>[(p&q)])")):
            for number in range(4):
                self.assert_wrong(changed(LONGER, number, 3, saying), WHOLE)

    def test_sides_that_are_not_sorted_or_have_doubles(self):
        for number, step in enumerate(LONGER):
            for place in (0, 1):
                side = step[place]
                for other in (side[::-1], side + side[:1], side[:1] + side):
                    if other != side:
                        self.assert_wrong(changed(LONGER, number, place, other), WHOLE)

    def test_a_wrong_step_that_nothing_uses(self):
        for step in (([Q, P], [P], "same", P, []), ([P], [P, P], "same", P, []), ([P], [Q], "same", P, []),
                     ([P], [P], "both", P, []), ([P], [P], "same", P, [0]), ([], [A], "up", A, [0]),
                     ([P], [P], "same", P, [-1])):
            self.assert_wrong([step] + SAME, ([P], [P]))
            self.assert_wrong(SAME + [step] + SAME, ([P], [P]))

    def test_no_step_is_right_by_a_later_one(self):
        for number in range(1, 4):
            turned = [LONGER[number]] + LONGER[:number] + LONGER[number + 1:]
            self.assert_wrong(turned, WHOLE)


class Looking(unittest.TestCase):
    def test_long_lists(self):
        count = 1500
        deep = wrapped("not", 20, P)
        steps = SAME * count
        self.assertIs(shows(steps, ([P], [P])), True)
        self.assertIs(shows(steps + [([P], [Q], "same", P, [])] + SAME, ([P], [P])), False)
        self.assertIs(shows(steps + [([P, deep], [P], "same", P, [])], ([P, deep], [P])), True)

    def test_long_chains_of_uses(self):
        saying, steps = P, list(SAME)
        for number in range(200):
            word, uses = (("and", [number]), ("or", [number, number]))[number % 2]
            saying = put((word, P, P), {"p": saying})
            steps.append(([saying], [P], "left", saying, uses))
        self.assertIs(shows(steps, ([saying], [P])), True)
        steps[151] = steps[151][:4] + ([149, 149],)
        self.assertIs(shows(steps, ([saying], [P])), False)

    def test_great_sayings(self):
        saying = doubled(P, 300)
        self.assertIs(shows([([saying], [saying], "same", saying, [])], ([saying], [saying])), True)
        self.assertIs(shows([([saying], [("not", saying)], "same", saying, [])], ([saying], [saying])), False)

    def test_what_is_handed_in_stays(self):
        steps = [(list(step[0]), list(step[1]), step[2], step[3], list(step[4])) for step in LONGER]
        claim = ([], list(WHOLE[1]))
        self.assertIs(shows(steps, claim), True)
        self.assertEqual(steps, LONGER)
        self.assertEqual(claim, WHOLE)
        steps.append(SAME[0])
        self.assertIs(shows(steps, claim), False)
        self.assertEqual(claim, WHOLE)

    def test_each_spoilt_step_is_seen(self):
        claim = claim_of([r("([p]>q)"), r("[(q>p)]")], [r("([[(q&p)]]>[[q]])"), R])
        told = searched(claim)
        self.assertEqual(told[0], "showing")
        steps = told[1]
        self.assertIs(shows(steps, claim), True)
        for number in range(len(steps)):
            for place in range(5):
                value = steps[number][place]
                other = [lambda: value + [R, R], lambda: value + [R, R], lambda: value + "s",
                         lambda: ("not", ("not", value)), lambda: value + [0]][place]()
                self.assertIs(shows(changed(steps, number, place, other), claim), False)


if __name__ == "__main__":
    unittest.main()
