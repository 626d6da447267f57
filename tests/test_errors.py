"""Point 5: the errors."""

import unittest

import support
from saidacross import errors

PLAIN = """NoWord NoNumber OtherLetters NoDeed NoLot NoDealing NoRow NoHand NoRows TalkOver
NoWritings NoTable IsFixed NotLength NoMark NoTurn NoBit NoLetters NoSaying NoBook NoCounts
NoLetter NoWay NoOwners NotOwned NoPlace NoSign NoAccount NoWords NoKind NoText NoMessages
NoLine NoName NoTalk NothingDone""".split()
FIELDS = {"NoMachine": "part", "TooMany": "most"}


def named(name):
    return getattr(errors, name)


class ErrorsTest(unittest.TestCase):
    def test_said_error_is_a_value_error(self):
        self.assertEqual(errors.SaidError.__bases__, (ValueError,))

    def test_each_is_a_direct_subclass(self):
        for name in PLAIN + list(FIELDS):
            self.assertEqual(named(name).__bases__, (errors.SaidError,), name)
            self.assertTrue(issubclass(named(name), ValueError))
            self.assertEqual(named(name).__name__, name)
            self.assertEqual(named(name).__module__, "saidacross.errors")

    def test_none_is_a_subclass_of_another(self):
        every = [named(name) for name in PLAIN + list(FIELDS)]
        self.assertEqual(len(set(every)), 38)
        for one in every:
            self.assertEqual([other for other in every if issubclass(one, other)], [one])

    def test_without_fields_constructed_without_arguments(self):
        for name in PLAIN:
            error = named(name)()
            self.assertIsInstance(error, named(name))
            with self.assertRaises(errors.SaidError):
                raise error

    def test_fields_keep_whatever_they_are_given(self):
        for name, field in FIELDS.items():
            for value in support.odd_values():
                error = named(name)(value)
                self.assertTrue(getattr(error, field) is value)
            with self.assertRaises(named(name)) as caught:
                raise named(name)("x")
            self.assertEqual(getattr(caught.exception, field), "x")

    def test_fields_take_one_argument(self):
        for name in FIELDS:
            for arguments in ((), (1, 2)):
                with self.assertRaises(TypeError):
                    named(name)(*arguments)


if __name__ == "__main__":
    unittest.main()
