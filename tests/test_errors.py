"""Errors, [0.2] and the interface of errors.py."""

import unittest

from fifthhost import errors
from fifthhost.errors import BadHost, BadNet, Refused

NAMES = """
BadNet BadVotes BadLinks BadNeed BadHost BadLot BadOrder BadBlock BadWhich BadSeam BadTimes BadRule BadLog BadHouse
BadMoments BadKey BadValue BadMany BadPairs BadLetters BadName BadNumber BadPlace BadEdition BadRestores BadRecord
BadEntry BadStory BadText WrongWord WrongLine Same Already NoLink Unlike NotWorking Unruled NoRule Down Blank NotDown
NotBlank NotOpen NotCommanding NotSettled NotSealed NotLet Harmful NoLetter NothingToUndo NothingToRedo TooMany
""".split()


class Errors(unittest.TestCase):

    def test_all_errors_are_there(self):
        self.assertEqual(len(NAMES), 52)
        for name in NAMES:
            self.assertTrue(isinstance(getattr(errors, name), type), name)

    def test_there_are_no_others(self):
        told = [name for name, thing in vars(errors).items() if isinstance(thing, type)]
        self.assertEqual(sorted(told), sorted(NAMES + ["Refused"]))

    def test_refused_stands_under_value_error(self):
        self.assertEqual(Refused.__bases__, (ValueError,))

    def test_the_others_stand_under_refused_alone(self):
        for name in NAMES:
            error = getattr(errors, name)
            self.assertEqual(error.__bases__, (Refused,), name)
            above = [one for one in NAMES if one != name and issubclass(error, getattr(errors, one))]
            self.assertEqual(above, [])

    def test_each_name_is_that_of_its_class(self):
        for name in NAMES:
            error = getattr(errors, name)
            self.assertEqual((error.__name__, error.__module__), (name, "fifthhost.errors"))

    def test_what_is_kept_as_it_is(self):
        for name in NAMES + ["Refused"]:
            error = getattr(errors, name)
            for what in (-1, True, None, 1.0, "text", (), [1, [2]], (1, (2,)), 10 ** 4199):
                self.assertIs(error(what).what, what)
                self.assertIs(error(what=what).what, what)

    def test_what_it_is_called_is_kept_as_well(self):
        for name in NAMES + ["Refused"]:
            self.assertEqual(getattr(errors, name)(7).name, name)

    def test_what_is_kept_for_one_error_alone(self):
        one = BadNet(1)
        two = BadNet(2)
        other = BadHost(3)
        self.assertEqual((one.what, two.what, other.what), (1, 2, 3))
        for error in (Refused, BadNet, BadHost):
            self.assertFalse(hasattr(error, "what"))

    def test_each_is_made_from_one_argument(self):
        for name in NAMES + ["Refused"]:
            error = getattr(errors, name)
            with self.assertRaises(TypeError):
                error()
            with self.assertRaises(TypeError):
                error(1, 2)

    def test_each_can_be_caught_as_refused_and_as_value_error(self):
        for name in NAMES:
            for above in (Refused, ValueError):
                with self.assertRaises(above) as caught:
                    raise getattr(errors, name)(7)
                self.assertEqual(caught.exception.what, 7)


if __name__ == "__main__":
    unittest.main()
