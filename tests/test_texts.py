import unittest

from selfsay.errors import NoSaying
from selfsay.texts import read, written
from tests.samples import JOINS, NO, P, Q, R, plain_text, sayings_of_size_120, small_sayings

SIGNS = [chr(k) for k in range(ord(" "), ord("~") + 1)]


class Written(unittest.TestCase):
    def test_each_form(self):
        cases = ((NO, "0"), (P, "p"), (Q, "q"), (R, "r"), (("not", P), "~p"), (("shown", P), "[p]"),
                 (("and", P, Q), "(p&q)"), (("or", P, Q), "(p|q)"), (("if", P, Q), "(p>q)"))
        for saying, text in cases:
            self.assertEqual(written(saying), text)
            self.assertEqual(read(text), saying)

    def test_nested(self):
        saying = ("if", ("shown", ("if", ("shown", P), P)), ("not", ("not", ("or", NO, ("and", Q, R)))))
        self.assertEqual(written(saying), "([([p]>p)]>~~(0|(q&r)))")
        self.assertEqual(read("([([p]>p)]>~~(0|(q&r)))"), saying)
        self.assertEqual(read("(~[p]&~~(q|r))"),
                         ("and", ("not", ("shown", P)), ("not", ("not", ("or", Q, R)))))
        self.assertEqual(read("[~(~p>[[0]])]"),
                         ("shown", ("not", ("if", ("not", P), ("shown", ("shown", NO))))))

    def test_all_small_sayings_and_read_again(self):
        for saying in small_sayings(5):
            text = written(saying)
            self.assertEqual(text, plain_text(saying))
            self.assertEqual(read(text), saying)

    def test_size_120(self):
        for saying in sayings_of_size_120():
            self.assertEqual(written(saying), plain_text(saying))
            self.assertEqual(read(written(saying)), saying)

    def test_120_signs(self):
        for text in ("~" * 119 + "p", "[" * 59 + "~q" + "]" * 59, "(p&" * 29 + "~~~r" + ")" * 29,
                     "(" * 29 + "[~0]" + "|q)" * 29):
            self.assertEqual(len(text), 120)
            self.assertEqual(written(read(text)), text)


class Refused(unittest.TestCase):
    def assert_place(self, text, place):
        with self.assertRaises(NoSaying, msg=repr(text)) as caught:
            read(text)
        self.assertEqual(caught.exception.place, place, repr(text))

    def test_wrong_at_the_begin(self):
        for sign in SIGNS:
            if sign not in "0pqr~[(":
                self.assert_place(sign, 0)
                self.assert_place(sign + "p", 0)

    def test_wrong_in_the_middle(self):
        cases = (("(p)", 2), ("()", 1), ("[]", 1), ("~]", 1), ("(~)", 2), ("(pq)", 2), ("(p&)", 3),
                 ("(p&q&r)", 4), ("(p&q]", 4), ("[p)", 2), ("[p&q]", 2), ("(p~q)", 2), ("(p>>q)", 3),
                 ("(&p)", 1), ("(p[q])", 2), ("(0&1)", 3), ("([p>q])", 3), ("((p&q))", 6), ("[pp]", 2),
                 ("~&p", 1), ("(p&(q|r)&p)", 8), ("[~~p~]", 4), ("(A&p)", 1), ("(p-q)", 2))
        for text, place in cases:
            self.assert_place(text, place)

    def test_wrong_behind_a_whole_saying(self):
        cases = (("pq", 1), ("p)", 1), ("p]", 1), ("p&q", 1), ("~p~", 2), ("(p&q)r", 5), ("[p][q]", 3),
                 ("00", 1), ("(p&q))", 5), ("[p]]", 3), ("~~p ", 3), ("(p|q)&r", 5))
        for text, place in cases:
            self.assert_place(text, place)

    def test_blanks_and_other_signs(self):
        cases = ((" ", 0), (" p", 0), ("p ", 1), ("~ p", 1), ("(p & q)", 2), ("(p& q)", 3), ("[ p]", 1),
                 ("(p&q )", 4), ("P", 0), ("s", 0), ("~S", 1), ("1", 0), ("-", 0), ("(p<q)", 2),
                 ("p\n", 1), ("no", 0))
        for text, place in cases:
            self.assert_place(text, place)

    def test_ends_too_early(self):
        for text in ("", "~", "~~", "[", "(", "[p", "(p", "(p&", "(p&q", "~[(p|q)", "([p]>", "((p&q)",
                     "~" * 120, "(" * 120, "[" * 60 + "p" + "]" * 59, "(p&" * 40):
            self.assert_place(text, len(text))

    def test_each_text_of_up_to_two_signs(self):
        texts = {plain_text(saying) for saying in small_sayings(5)}
        # "((" needs the most parts of all beginnings of two signs: five.
        beginnings = {text[:k] for text in texts for k in range(3)}
        for text in [""] + SIGNS + [a + b for a in SIGNS for b in SIGNS]:
            if text not in texts:
                can_stand = [k for k in range(len(text) + 1) if text[:k] in beginnings]
                self.assert_place(text, max(can_stand))

    def test_a_beginning_ends_too_early(self):
        texts = {plain_text(saying) for saying in small_sayings()}
        for text in texts:
            for k in range(len(text)):
                if text[:k] not in texts:
                    self.assert_place(text[:k], k)

    def test_more_behind_a_whole_saying(self):
        for saying in small_sayings():
            for sign in "0p~[](&)|> ":
                self.assert_place(plain_text(saying) + sign, len(plain_text(saying)))

    def test_wrong_place_in_120_signs(self):
        text = "~" * 118 + "pp"
        self.assert_place(text, 119)
        self.assert_place("(p&" * 29 + "~~~r" + ")" * 28 + "]", 119)

    def test_what_is_asked_between_changes_nothing(self):
        for text in ("(p", "((((", "~~", "[q"):
            self.assert_place(text, len(text))
            self.assertEqual(read("(p&q)"), ("and", P, Q))
            for word in JOINS:
                self.assertEqual(read(written((word, P, NO))), (word, P, NO))


if __name__ == "__main__":
    unittest.main()
