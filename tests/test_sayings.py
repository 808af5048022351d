import unittest

from selfsay.sayings import depth_of, letters_of, parts_of, put, shown_parts, size_of, yes
from tests.samples import (JOINS, NO, P, Q, R, all_parts, plain_depth, plain_put, sayings_by_size,
                           sayings_of_size_120, small_sayings, wrapped)


class SizesAndDepths(unittest.TestCase):
    def test_yes(self):
        self.assertEqual(yes(), ("not", ("no",)))

    def test_each_form(self):
        for saying in (NO, P, Q, R):
            self.assertEqual((size_of(saying), depth_of(saying)), (1, 0))
        self.assertEqual((size_of(yes()), depth_of(yes())), (2, 0))
        self.assertEqual((size_of(("shown", P)), depth_of(("shown", P))), (2, 1))
        for word in JOINS:
            self.assertEqual((size_of((word, P, Q)), depth_of((word, P, Q))), (3, 0))

    def test_parts_count_as_often_as_they_stand(self):
        twice = ("and", ("not", P), ("not", P))
        self.assertEqual(size_of(twice), 5)
        self.assertEqual(size_of(("or", twice, twice)), 11)

    def test_shown_within_shown(self):
        self.assertEqual(depth_of(("shown", ("shown", P))), 2)
        self.assertEqual(depth_of(("shown", ("not", ("shown", ("if", P, ("shown", NO)))))), 3)

    def test_shown_side_by_side(self):
        deep = ("shown", ("shown", P))
        for word in JOINS:
            self.assertEqual(depth_of((word, ("shown", P), ("shown", P))), 1)
            self.assertEqual(depth_of((word, deep, ("shown", P))), 2)
            self.assertEqual(depth_of((word, ("shown", P), deep)), 2)
            self.assertEqual(depth_of(("shown", (word, P, deep))), 3)

    def test_all_small_sayings(self):
        for size, sayings in sayings_by_size(5).items():
            for saying in sayings:
                self.assertEqual(size_of(saying), size)
                self.assertEqual(depth_of(saying), plain_depth(saying))


class Parts(unittest.TestCase):
    def test_unlike_parts_once(self):
        shown = ("shown", ("and", P, P))
        saying = ("if", shown, ("not", shown))
        self.assertEqual(parts_of(saying), [("and", P, P), saying, P, ("not", shown), shown])
        self.assertEqual(shown_parts(saying), [shown])

    def test_shown_parts(self):
        inner = ("shown", P)
        outer = ("shown", ("not", inner))
        self.assertEqual(shown_parts(("or", outer, ("and", inner, ("shown", Q)))),
                         [inner, ("shown", Q), outer])
        self.assertEqual(shown_parts(("not", P)), [])
        self.assertEqual(shown_parts(NO), [])

    def test_order_by_words_first(self):
        rows = [("and", R, R), ("if", Q, Q), P, NO, ("not", NO), ("or", NO, NO), ("shown", NO)]
        saying = rows[0]
        for row in rows[1:]:
            saying = ("and", row, saying)
        told = [part for part in parts_of(saying) if part in rows]
        self.assertEqual(told, rows)

    def test_order_by_the_first_then_by_the_second(self):
        rows = [("or", P, R), ("or", Q, P), ("or", Q, Q), ("or", Q, ("not", P)), ("or", R, NO)]
        saying = ("not", rows[3])
        for place in (4, 0, 2, 1):
            saying = ("if", rows[place], saying)
        self.assertEqual([part for part in parts_of(saying) if part[0] == "or"], rows)

    def test_the_first_decides_however_deep_it_differs(self):
        low, high = wrapped("not", 20, P), wrapped("not", 20, Q)
        one, other = ("and", low, R), ("and", high, NO)
        self.assertEqual(parts_of(("or", other, one))[:2], [one, other])
        one, other = ("and", low, P), ("and", low, R)
        self.assertEqual(parts_of(("or", other, one))[:2], [one, other])

    def test_as_python_sorts_them(self):
        for saying in small_sayings(5) + sayings_of_size_120():
            expected = sorted(set(all_parts(saying)))
            self.assertEqual(parts_of(saying), expected)
            self.assertEqual(shown_parts(saying), [a for a in expected if a[0] == "shown"])

    def test_many_parts_as_python_sorts_them(self):
        small = small_sayings(3)
        for step in (1, 5, 7, 11):
            saying = NO
            for place in range(len(small)):
                saying = (JOINS[place % 3], saying, small[place * step % len(small)])
            self.assertEqual(parts_of(saying), sorted(set(all_parts(saying))))

    def test_a_changed_list_changes_nothing(self):
        saying = ("and", ("shown", P), ("shown", Q))
        for ask in (parts_of, shown_parts, letters_of):
            first = ask(saying)
            kept = list(first)
            self.assertIs(type(first), list)
            first.reverse()
            first.append(NO)
            self.assertEqual(ask(saying), kept)
            self.assertIsNot(ask(saying), ask(saying))

    def test_what_is_asked_between_changes_nothing(self):
        saying = ("and", ("shown", P), ("shown", Q))
        asks = (size_of, depth_of, parts_of, shown_parts, letters_of)
        first = [ask(saying) for ask in asks]
        for other in small_sayings(3):
            for ask in asks:
                ask(other)
            put(other, {"p": saying})
        self.assertEqual([ask(saying) for ask in asks], first)
        self.assertEqual(saying, ("and", ("shown", P), ("shown", Q)))


class Letters(unittest.TestCase):
    def test_sorted_each_once_as_texts(self):
        self.assertEqual(letters_of(("and", ("or", R, Q), ("if", ("shown", P), R))), ["p", "q", "r"])
        self.assertEqual(letters_of(("and", R, ("not", Q))), ["q", "r"])
        self.assertEqual(letters_of(P), ["p"])
        self.assertEqual(letters_of(("shown", yes())), [])

    def test_all_small_sayings(self):
        for saying in small_sayings():
            letters = {part[1] for part in all_parts(saying) if part[0] == "letter"}
            self.assertEqual(letters_of(saying), sorted(letters))


class Putting(unittest.TestCase):
    def test_several_at_once(self):
        saying = ("and", P, ("or", Q, ("shown", P)))
        self.assertEqual(put(saying, {"p": ("not", R), "q": NO}),
                         ("and", ("not", R), ("or", NO, ("shown", ("not", R)))))

    def test_what_is_put_in_is_not_looked_at_again(self):
        self.assertEqual(put(("if", P, Q), {"p": Q, "q": P}), ("if", Q, P))
        self.assertEqual(put(P, {"p": ("and", P, Q), "q": R}), ("and", P, Q))
        self.assertEqual(put(("or", P, Q), {"p": Q, "q": R, "r": P}), ("or", Q, R))

    def test_letters_that_are_not_named_stay(self):
        self.assertEqual(put(("if", P, Q), {"q": R}), ("if", P, R))
        self.assertEqual(put(("if", P, Q), {"r": NO}), ("if", P, Q))
        self.assertEqual(put(NO, {"p": Q}), NO)

    def test_the_empty_dict(self):
        for saying in small_sayings():
            self.assertEqual(put(saying, {}), saying)

    def test_all_small_sayings(self):
        puts = ({"p": ("shown", P)}, {"p": Q, "q": R, "r": P}, {"q": NO, "r": ("if", Q, R)})
        for saying in small_sayings(5):
            for sayings in puts:
                self.assertEqual(put(saying, sayings), plain_put(saying, sayings))

    def test_what_is_handed_in_stays(self):
        saying = ("and", P, ("shown", Q))
        sayings = {"q": ("not", Q), "p": R}
        told = put(saying, sayings)
        self.assertEqual(saying, ("and", P, ("shown", Q)))
        self.assertEqual(list(sayings.items()), [("q", ("not", Q)), ("p", R)])
        sayings["p"] = NO
        self.assertEqual(told, ("and", R, ("shown", ("not", Q))))


if __name__ == "__main__":
    unittest.main()
