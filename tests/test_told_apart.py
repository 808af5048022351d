"""Great sayings that are alike or begin alike, told apart from one another and put into one."""

import unittest

from selfsay.claims import claim_of, claim_parts, needed
from selfsay.judging import alike, follows
from selfsay.kinds import kinds_of, tried
from selfsay.sayings import depth_of, letters_of, parts_of, put, shown_parts, size_of
from selfsay.searching import searched
from selfsay.selves import outer_parts
from selfsay.showings import shows
from selfsay.texts import read
from selfsay.trees import Chain
from tests.samples import P, Q, doubled, wrapped

SHAPES = ("(p&~p)", "(~p|~p)", "((p&q)&(q&p))", "(p>[p])", "((q|p)>(p|~p))", "~(p&(p&(r|p)))")
R = ("letter", "r")


def told(text, times, first=P):
    """What is told when the text's saying is made about the last one, again and again."""
    shape, saying = read(text), first
    for _ in range(times):
        saying = put(shape, {"p": saying})
    return saying


class PutIntoOne(unittest.TestCase):
    def assert_told_of(self, saying, times):
        self.assertEqual(size_of(saying), 2 ** (times + 3) + 3)
        self.assertEqual(depth_of(saying), 0)
        self.assertEqual(letters_of(saying), ["p"])
        self.assertEqual(shown_parts(saying), [])
        self.assertEqual(len(parts_of(saying)), times + 7)

    def test_two_told_apart(self):
        for times in (10, 60, 61, 100, 200, 415, 1000):
            one, other = doubled(P, times), doubled(P, times)
            saying = put(read("~~~~((p&p)|(p&q))"), {"p": one, "q": other})
            self.assert_told_of(saying, times)
            changed = put(saying, {"p": ("not", Q)})
            self.assertEqual(size_of(changed), 2 ** (times + 3) + 3 + 2 ** (times + 2))
            self.assertEqual(letters_of(changed), ["q"])

    def test_joined_by_the_asker(self):
        for times in (60, 415):
            one, other = doubled(P, times), doubled(P, times)
            saying = wrapped("not", 4, ("or", ("and", one, one), ("and", one, other)))
            self.assert_told_of(saying, times)

    def test_other_shapes(self):
        for text in SHAPES:
            for times in (20, 60, 100):
                one, other = told(text, times), told(text, times)
                count = len(parts_of(one))
                for saying in (("and", one, other), put(read("(p&q)"), {"p": one, "q": other})):
                    self.assertEqual(size_of(saying), 2 * size_of(one) + 1, text)
                    self.assertEqual(len(parts_of(saying)), count + 1, text)
                    self.assertEqual(letters_of(saying), letters_of(one))
                    self.assertEqual(depth_of(saying), depth_of(other))

    def test_far_below_the_whole(self):
        for text in ("(p&p)",) + SHAPES[:3]:
            one, other = told(text, 60), told(text, 60)
            saying = put(read("(p&(p|(p>(p&(p&(p|(p&(p>(p&(p&(p&q)))))))))))"), {"p": one, "q": other})
            self.assertEqual(size_of(saying), 12 * size_of(one) + 11)
            for _ in range(30):
                saying = put(read("(p|~p)"), {"p": saying})
            self.assertEqual(len(parts_of(saying)), len(parts_of(one)) + 11 + 60)

    def test_one_is_a_part_of_the_other(self):
        for ahead in (1, 5, 40):
            one, other = told("(p&~p)", 80), told("(p&~p)", 80 - ahead)
            for text in ("(p&q)", "(q&p)", "~~~((p&q)|(q&p))"):
                saying = put(read(text), {"p": one, "q": other})
                for _ in range(20):
                    saying = put(read("(p>~p)"), {"p": saying})
                new = len(parts_of(read(text))) - 2
                self.assertEqual(len(parts_of(saying)), len(parts_of(one)) + new + 40)

    def test_other_modules(self):
        one, other = told("(p|~~p)", 12), told("(p|~~p)", 12)
        claim = claim_of([one, other, one], [other])
        self.assertEqual([len(side) for side in claim], [1, 1])
        self.assertEqual(len(claim_parts(claim)), 37)
        steps = searched(claim)[1]
        self.assertIs(shows(steps, claim_of([other], [one])), True)
        self.assertEqual(alike(one, other)[0], "alike")
        self.assertEqual(follows([one], ("and", other, one))[0], "showing")
        great, again = told("(p&~~p)", 60), told("(p&~~p)", 60)
        both = ("if", great, ("and", great, again))
        self.assertEqual(needed(claim_of([great], [again]), "same", told("(p&~~p)", 60)), [])
        self.assertEqual(Chain(["p", ""]).holds(both), [True, True])
        self.assertEqual(kinds_of(both), [(False,), (True,)])
        self.assertIs(tried(both), True)
        self.assertEqual(len(outer_parts(("or", ("shown", great), ("shown", again)))), 1)


class BegunAlike(unittest.TestCase):
    """Sayings that are high, begin alike, and differ only near their ends."""

    def made(self, times, first, side):
        shapes = [read("(p&q)"), read("(p&q)"), read("(q&p)")]
        saying = first
        for k in range(times):
            saying = put(shapes[k % 3], {"p": saying, "q": side})
        return saying

    def test_two_high_ones(self):
        side, ahead = doubled(P, 6), doubled(P, 8)
        for times in (300, 1000, 1500):
            one, other = self.made(times, P, side), self.made(times, R, side)
            saying = put(put(read("~~~~((p&q)|(p&r))"), {"p": ahead}), {"q": one, "r": other})
            self.assertEqual(size_of(saying), 257031 + 256 * (times - 1000))
            self.assertEqual(depth_of(saying), 0)
            self.assertEqual(letters_of(saying), ["p", "r"])
            # Two for each step, what is ahead and what is at the side, r, and seven of the shape.
            self.assertEqual(len(parts_of(saying)), 2 * times + 9 + 1 + 7)

    def test_far_below_the_whole(self):
        side, ahead = doubled(P, 6), doubled(P, 8)
        one, other = self.made(1000, P, side), self.made(1000, R, side)
        saying = put(put(read("((p&q)|(p&r))"), {"p": ahead}), {"q": one, "r": other})
        for _ in range(20):
            saying = put(read("(p|~p)"), {"p": saying})
        self.assertEqual(len(parts_of(saying)), 2 * 1000 + 9 + 1 + 3 + 40)


if __name__ == "__main__":
    unittest.main()
