import unittest

from rootcourt import errors

REFUSALS = ("NoPart", "NoFree", "NoInverse", "TooGreat", "NoShape", "NoText", "NoLine", "NoName")


class Refusals(unittest.TestCase):

    def classes(self):
        return [getattr(errors, name) for name in REFUSALS]

    def test_court_error_is_a_value_error(self):
        self.assertEqual(errors.CourtError.__bases__, (ValueError,))

    def test_each_stands_straight_under_court_error(self):
        for refusal in self.classes():
            self.assertEqual(refusal.__bases__, (errors.CourtError,))
            self.assertTrue(issubclass(refusal, ValueError))

    def test_none_stands_under_another(self):
        for one in self.classes():
            for other in self.classes():
                self.assertEqual(issubclass(one, other), one is other)

    def test_each_is_raised_and_taken_by_its_own_class(self):
        for refusal in self.classes():
            for taken in (refusal, errors.CourtError, ValueError):
                with self.assertRaises(taken):
                    raise refusal("why")

    def test_no_name_keeps_the_thing_handed_in(self):
        for thing in ("w", "", None, 7, ("x",), ["y"]):
            self.assertEqual(errors.NoName(thing).name, thing)
        thing = ["y"]
        self.assertIs(errors.NoName(thing).name, thing)


if __name__ == "__main__":
    unittest.main()
