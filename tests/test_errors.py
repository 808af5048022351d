import unittest

from selfsay import errors
from selfsay.errors import (HasLetter, NoLine, NoRule, NoSaying, Nothing, NoTree, Outside, SayError,
                            TooMany)

PLAIN = (TooMany, NoRule, Outside, NoLine, Nothing)
FIELDS = ((NoSaying, "place"), (NoTree, "room"), (HasLetter, "letter"))
ALL = PLAIN + tuple(kind for kind, _ in FIELDS)


class Refusals(unittest.TestCase):
    def test_there_are_nine(self):
        found = [thing for thing in vars(errors).values() if isinstance(thing, type)]
        self.assertEqual(set(found), set(ALL) | {SayError})
        self.assertEqual(len(ALL), 8)

    def test_all_stand_under_sayerror_and_valueerror(self):
        self.assertTrue(issubclass(SayError, ValueError))
        for kind in ALL:
            self.assertTrue(issubclass(kind, SayError), kind)

    def test_none_stands_under_another(self):
        for kind in ALL:
            for other in ALL:
                self.assertEqual(issubclass(kind, other), kind == other, (kind, other))

    def test_plain_ones_are_made_of_nothing_and_have_no_fields(self):
        for kind in PLAIN:
            self.assertEqual(vars(kind()), {})
            with self.assertRaises(kind):
                raise kind()

    def test_fields_of_any_whole_number_and_any_text(self):
        for value in (0, 7, -1, -5, 10 ** 60, "p", "", "any text ~"):
            for kind, field in FIELDS:
                self.assertEqual(vars(kind(value)), {field: value})

    def test_fields_stay_when_raised(self):
        for kind, field in FIELDS:
            with self.assertRaises(SayError) as caught:
                raise kind(3)
            self.assertEqual(getattr(caught.exception, field), 3)
            self.assertIs(type(caught.exception), kind)

    def test_fields_belong_to_each_object(self):
        first, second = NoSaying(1), NoSaying(2)
        self.assertEqual((first.place, second.place), (1, 2))


if __name__ == "__main__":
    unittest.main()
