import unittest

from selfsay.desk import Desk
from selfsay.errors import HasLetter, NoLine, NoSaying, Nothing, Outside, SayError, TooMany
from selfsay.judging import alike, judged
from selfsay.kinds import kinds_of, tried
from selfsay.rows import row_of
from selfsay.sayings import depth_of, put, size_of
from selfsay.selves import answer
from selfsay.texts import read, written
from selfsay.trees import Chain, Tree
from tests.samples import P, small_sayings, some_sayings, wrapped

# Lines whose first word is one of the eight, or none, and that are no lines all the same.
NO_LINES = ("", " ", "say", "say p q", "say  p", " say p", "say p ", "Say p", "says p", "p", "[p]", "nothing", "put",
            "put p", "put p q r", "put s q", "put pq q", "put P q", "put - q", "put  q", "put 0 q", "put  ",
            "judge p", "judge ", "Judge", "alike", "alike p q", "alike p ", "row 1", "row ", "self p", "self ", "kinds ",
            "kinds 1", "chain", "chain ", "chain p ", "chain  p", "chain qp", "chain pp", "chain s", "chain --",
            "chain -p", "chain p -q", "chain 0", "chain p,q", "chain P", "chain pqrp", "say\tp", "judge\n")


def desk_with(text):
    desk = Desk()
    desk.say("say " + text)
    return desk


def rooms_of(words):
    return [(int(word.split(":")[0]), word.split(":")[1]) for word in words]


class Lines(unittest.TestCase):
    def test_say(self):
        for text, told in (("p", "size 1 depth 0"), ("0", "size 1 depth 0"), ("[p]", "size 2 depth 1"),
                           ("([([p]>p)]>[p])", "size 8 depth 2"), ("~~~q", "size 4 depth 0")):
            self.assertEqual(Desk().say("say " + text), told)
        for saying in some_sayings(1, 40, 20):
            told = Desk().say("say " + written(saying))
            self.assertEqual(told, f"size {size_of(saying)} depth {depth_of(saying)}")

    def test_say_anew(self):
        desk = desk_with("p")
        desk.say("say q")
        self.assertEqual(desk.say("put q r"), "r")

    def test_put(self):
        desk = desk_with("(p&[q])")
        self.assertEqual(desk.say("put p ~p"), "(~p&[q])")
        self.assertEqual(desk.say("put p (p|q)"), "(~(p|q)&[q])")
        self.assertEqual(desk.say("put q 0"), "(~(p|0)&[0])")
        self.assertEqual(desk.say("put r p"), "(~(p|0)&[0])")
        self.assertEqual(desk.say("put p r"), "(~(r|0)&[0])")
        for letter in "pqr":
            for saying in some_sayings(2, 20, 9):
                text = written(put(saying, {letter: read("[(q>p)]")}))
                self.assertEqual(desk_with(written(saying)).say(f"put {letter} [(q>p)]"), text)

    def test_put_up_to_a_hundred_and_twenty(self):
        desk = desk_with("~" * 60 + "p")
        self.assertEqual(desk.say("put p " + "~" * 59 + "p"), "~" * 119 + "p")
        self.assertEqual(desk.say("put p q"), "~" * 119 + "q")
        with self.assertRaises(TooMany):
            desk.say("put q ~q")
        self.assertEqual(desk.say("put p ~q"), "~" * 119 + "q")
        desk = desk_with("(p&p)")
        with self.assertRaises(TooMany):
            desk.say("put p " + "~" * 59 + "q")
        self.assertEqual(desk.say("put p ~" + "~" * 57 + "q"), "(" + "~" * 58 + "q&" + "~" * 58 + "q)")

    def test_judge(self):
        for text in ("(p|~p)", "([([p]>p)]>[p])", "~0", "([p]>[[p]])"):
            self.assertEqual(desk_with(text).say("judge"), "shown")
        self.assertEqual(desk_with("0").say("judge"), "fails -1:")
        for saying in small_sayings(3) + some_sayings(3, 60, 8):
            words = desk_with(written(saying)).say("judge").split(" ")
            if judged(saying)[0] == "showing":
                self.assertEqual(words, ["shown"])
            else:
                self.assertEqual(words[0], "fails")
                self.assertEqual(rooms_of(words[1:]), judged(saying)[1])
                self.assertIs(Tree(rooms_of(words[1:])).worth(saying, 0), False)

    def test_alike(self):
        self.assertEqual(desk_with("(p&q)").say("alike (q&p)"), "alike")
        self.assertEqual(desk_with("[([p]>p)]").say("alike [p]"), "alike")
        for one, other in (("p", "q"), ("[p]", "[[p]]"), ("(p|q)", "p"), ("[(p|q)]", "([p]|[q])")):
            for first, second in ((one, other), (other, one)):
                words = desk_with(first).say("alike " + second).split(" ")
                self.assertEqual(words[0], "unlike")
                self.assertEqual(rooms_of(words[1:]), alike(read(first), read(second))[1])
                tree = Tree(rooms_of(words[1:]))
                self.assertNotEqual(tree.worth(read(first), 0), tree.worth(read(second), 0))

    def test_row(self):
        for text, told in (("0", "0"), ("~0", "1"), ("[0]", "10"), ("[[0]]", "110"), ("~[0]", "01")):
            self.assertEqual(desk_with(text).say("row"), told)
        for saying in some_sayings(4, 30, 12, (("no",),)):
            told = "".join("1" if truth else "0" for truth in row_of(saying))
            self.assertEqual(desk_with(written(saying)).say("row"), told)

    def test_self(self):
        for text in ("[p]", "~[p]", "([p]>q)", "([p]&[~p])", "q"):
            self.assertEqual(desk_with(text).say("self"), written(answer(read(text))))
        self.assertEqual(desk_with("~[p]").say("self"), "~[~~0]")

    def test_kinds(self):
        for text, told in (("p", "2 no"), ("0", "1 no"), ("~0", "1 yes"), ("[[0]]", "3 no"), ("(p|~p)", "2 yes")):
            self.assertEqual(desk_with(text).say("kinds"), told)
        for saying in some_sayings(5, 30, 7):
            told = f"{len(kinds_of(saying))} {'yes' if tried(saying) else 'no'}"
            self.assertEqual(desk_with(written(saying)).say("kinds"), told)

    def test_chain(self):
        desk = desk_with("p")
        for line, told in (("chain p", "1"), ("chain -", "0"), ("chain - p q pq", "0101"),
                           ("chain pqr qr pr r", "1010"), ("chain - - -", "000")):
            self.assertEqual(desk.say(line), told)
        self.assertEqual(desk_with("[0]").say("chain - - -"), "001")
        self.assertEqual(desk_with("[p]").say("chain - p - p"), "0011")
        for saying in some_sayings(6, 30, 9):
            told = "".join("1" if truth else "0" for truth in Chain(["", "pq", "r", "pqr", "q"]).holds(saying))
            self.assertEqual(desk_with(written(saying)).say("chain - pq r pqr q"), told)


class Refused(unittest.TestCase):
    def assert_refused(self, desk, line, error, **fields):
        with self.assertRaises(SayError, msg=line) as caught:
            desk.say(line)
        self.assertIs(type(caught.exception), error, line)
        self.assertEqual({name: getattr(caught.exception, name) for name in fields}, fields)

    def test_no_line(self):
        for line in NO_LINES:
            self.assert_refused(Desk(), line, NoLine)
            self.assert_refused(desk_with("[p]"), line, NoLine)

    def test_nothing(self):
        for line in ("put p q", "put p ", "put q )", "judge", "alike p", "alike ", "alike (", "row", "self", "kinds",
                     "chain p", "chain - q"):
            self.assert_refused(Desk(), line, Nothing)

    def test_no_saying(self):
        for desk in (Desk(), desk_with("p")):
            for text, place in (("", 0), ("(", 1), ("pq", 1), ("~", 1), ("(p&q", 4), ("x", 0), ("[p)", 2)):
                self.assert_refused(desk, "say " + text, NoSaying, place=place)
        for text, place in (("", 0), ("(", 1), ("pq", 1), ("s", 0)):
            self.assert_refused(desk_with("p"), "alike " + text, NoSaying, place=place)
            self.assert_refused(desk_with("p"), "put p " + text, NoSaying, place=place)

    def test_no_saying_goes_ahead_of_too_many(self):
        self.assert_refused(desk_with("~" * 41 + "p"), "alike (", NoSaying, place=1)
        self.assert_refused(desk_with("~" * 41 + "p"), "alike p", TooMany)
        self.assert_refused(desk_with("~" * 100 + "p"), "put p " + "~" * 50, NoSaying, place=50)
        self.assert_refused(desk_with("~" * 100 + "p"), "put p " + "~" * 50 + "p", TooMany)

    def test_row(self):
        self.assert_refused(desk_with("[(r&q)]"), "row", HasLetter, letter="q")
        self.assert_refused(desk_with("p"), "row", HasLetter, letter="p")

    def test_too_many(self):
        self.assert_refused(desk_with(written(wrapped("not", 40, P))), "judge", TooMany)
        self.assert_refused(desk_with(written(wrapped("shown", 7, P))), "judge", TooMany)
        self.assert_refused(desk_with(written(wrapped("shown", 6, P))), "kinds", TooMany)
        self.assert_refused(desk_with(written(wrapped("shown", 10, P))), "self", TooMany)
        self.assert_refused(desk_with("([p]&([~p]&[[p]]))"), "self", TooMany)
        self.assertEqual(desk_with(written(wrapped("shown", 5, P))).say("kinds")[-2:], "no")

    def test_outside(self):
        self.assert_refused(desk_with("p"), "self", Outside)
        self.assert_refused(desk_with("~" * 50 + "p"), "self", Outside)

    def test_what_is_refused_changes_nothing(self):
        desk = desk_with("(p&[p])")
        for line in NO_LINES + ("say (", "say ", "put p (", "put p ", "alike )", "row", "self", "put p " + "~" * 90 + "p"):
            with self.assertRaises(SayError):
                desk.say(line)
            self.assertEqual(desk.say("put r q"), "(p&[p])")
        desk = Desk()
        self.assert_refused(desk, "say p q", NoLine)
        self.assert_refused(desk, "say (p", NoSaying, place=2)
        self.assert_refused(desk, "judge", Nothing)


class Keeping(unittest.TestCase):
    def test_only_say_and_put_change_what_is_kept(self):
        desk = desk_with("([p]>q)")
        for line in ("judge", "alike p", "alike ([p]>q)", "self", "kinds", "chain p q"):
            desk.say(line)
            self.assertEqual(desk.say("put r q"), "([p]>q)")

    def test_two_desks(self):
        one, other = Desk(), Desk()
        one.say("say p")
        with self.assertRaises(Nothing):
            other.say("judge")
        other.say("say [0]")
        self.assertEqual(one.say("put p (p|~p)"), "(p|~p)")
        self.assertEqual(one.say("judge"), "shown")
        self.assertEqual(other.say("row"), "10")

    def test_asked_again(self):
        desk = desk_with("([p]>(q|[[r]]))")
        lines = ("judge", "alike [p]", "kinds", "chain p - qr", "put p p")
        first = [desk.say(line) for line in lines]
        self.assertEqual([desk.say(line) for line in lines], first)

    def test_great_texts_within_a_line(self):
        text = "(" * 3000 + "p" + "&q)" * 3000
        desk = Desk()
        self.assertEqual(desk.say("say " + text), "size 6001 depth 0")
        self.assertEqual(desk.say("chain pq p"), "10")
        self.assertEqual(desk.say("kinds"), "4 no")
        with self.assertRaises(TooMany):
            desk.say("judge")
        with self.assertRaises(TooMany):
            desk.say("put r p")
        told = Desk().say("say " + desk_with("([p]&[~p])").say("self"))
        self.assertEqual(told, f"size {size_of(answer(read('([p]&[~p])')))} depth 2")


if __name__ == "__main__":
    unittest.main()
