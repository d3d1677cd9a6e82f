"""Promises 4 and 13: the classes of the refusals, and their fields."""

import unittest

from pactway import errors
from pactway.errors import (
    Breach, CalmRoom, NoChange, NoDeed, NoName, NoPair, NoRow, NoStand, NoText, PactError, TooMany,
)

ROW_ERRORS = [NoText, NoChange]
WORD_ERRORS = [NoName, CalmRoom, NoDeed]
BARE_ERRORS = [TooMany, NoStand, NoPair, NoRow]
ALL_ERRORS = ROW_ERRORS + WORD_ERRORS + BARE_ERRORS + [Breach]

THINGS = [
    0, 1, -1, 7, 90, 10 ** 20, -(10 ** 60), True, False, None,
    "", " ", "ann", "any", "two words", "0", "None", "a; b", "~",
    (), (None,), (1, 2), (True, 1), (False, 0), ("ann", "c", 3), ("", None, True, -5),
]


def made(error):
    if error in BARE_ERRORS:
        return error()
    if error is Breach:
        return Breach("ann", "c", 3)
    return error(5)


class Classes(unittest.TestCase):
    def test_pact_error_is_a_value_error(self):
        self.assertTrue(issubclass(PactError, ValueError))
        self.assertIsNot(PactError, ValueError)

    def test_each_stands_under_pact_error(self):
        for error in ALL_ERRORS:
            with self.subTest(error=error.__name__):
                self.assertTrue(issubclass(error, PactError))
                self.assertIsNot(error, PactError)

    def test_none_stands_under_another(self):
        for error in ALL_ERRORS:
            for other in ALL_ERRORS:
                with self.subTest(error=error.__name__, other=other.__name__):
                    self.assertEqual(issubclass(error, other), error.__name__ == other.__name__)

    def test_each_name_is_a_class_of_its_own(self):
        self.assertEqual(len(set(ALL_ERRORS)), 10)

    def test_each_class_bears_its_name_in_the_module(self):
        for error in ALL_ERRORS + [PactError]:
            self.assertIs(getattr(errors, error.__name__), error)

    def test_each_is_raised_and_taken_by_its_class(self):
        for error in ALL_ERRORS:
            with self.subTest(error=error.__name__):
                with self.assertRaises(error):
                    raise made(error)

    def test_each_is_taken_as_a_pact_error_and_as_a_value_error(self):
        for error in ALL_ERRORS:
            for wider in (PactError, ValueError):
                with self.subTest(error=error.__name__, wider=wider.__name__):
                    with self.assertRaises(wider) as taken:
                        raise made(error)
                    self.assertIs(type(taken.exception), error)


class Fields(unittest.TestCase):
    # True == 1, so whether the very thing stands there is asked of its kind, too.
    def assert_stands(self, field, thing):
        self.assertIs(type(field), type(thing))
        self.assertEqual(repr(field), repr(thing))

    def test_row(self):
        for error in ROW_ERRORS:
            for thing in THINGS:
                with self.subTest(error=error.__name__, thing=thing):
                    self.assert_stands(error(thing).row, thing)

    def test_word(self):
        for error in WORD_ERRORS:
            for thing in THINGS:
                with self.subTest(error=error.__name__, thing=thing):
                    self.assert_stands(error(thing).word, thing)

    def test_breach_in_the_order_told(self):
        told = Breach("ann", "c", 3)
        self.assert_stands(told.who, "ann")
        self.assert_stands(told.what, "c")
        self.assert_stands(told.turn, 3)

    def test_breach_with_whatever_things(self):
        many = len(THINGS)
        for place, who in enumerate(THINGS):
            what = THINGS[(place + 1) % many]
            turn = THINGS[(place + 2) % many]
            with self.subTest(who=who, what=what, turn=turn):
                told = Breach(who, what, turn)
                self.assert_stands(told.who, who)
                self.assert_stands(told.what, what)
                self.assert_stands(told.turn, turn)

    def test_breach_with_one_thing_three_times(self):
        for thing in THINGS:
            with self.subTest(thing=thing):
                told = Breach(thing, thing, thing)
                for field in (told.who, told.what, told.turn):
                    self.assert_stands(field, thing)

    def test_arguments_bear_the_names_of_the_fields(self):
        for error in ROW_ERRORS:
            self.assert_stands(error(row=4).row, 4)
        for error in WORD_ERRORS:
            self.assert_stands(error(word="pay").word, "pay")
        told = Breach(turn=0, what="f", who="bob")
        self.assertEqual((told.who, told.what, told.turn), ("bob", "f", 0))

    def test_fields_are_there_when_it_was_raised(self):
        with self.assertRaises(PactError) as taken:
            raise NoText(12)
        self.assert_stands(taken.exception.row, 12)
        with self.assertRaises(PactError) as taken:
            raise NoDeed(("rest", None))
        self.assert_stands(taken.exception.word, ("rest", None))
        with self.assertRaises(PactError) as taken:
            raise Breach("ann", "c", 0)
        told = taken.exception
        self.assertEqual((told.who, told.what, told.turn), ("ann", "c", 0))

    def test_each_error_has_fields_of_its_own(self):
        for error in ROW_ERRORS:
            first, second = error(1), error(2)
            self.assertEqual((first.row, second.row), (1, 2))
        for error in WORD_ERRORS:
            first, second = error("a"), error("b")
            self.assertEqual((first.word, second.word), ("a", "b"))
        first, second = Breach("a", "b", 1), Breach("c", "d", 2)
        self.assertEqual((first.who, first.what, first.turn), ("a", "b", 1))
        self.assertEqual((second.who, second.what, second.turn), ("c", "d", 2))


if __name__ == "__main__":
    unittest.main()
