"""The refusals, as DOC.md's interface lists them."""

import unittest

from onewalls import errors
from onewalls.errors import NoNet, NoPlace, NoSide, NoText, WallError
from tests.samples import REFUSALS


class Refusals(unittest.TestCase):
    def test_names(self):
        self.assertEqual([WallError.__name__] + [refusal.__name__ for refusal in REFUSALS],
                         ["WallError", "NoNet", "NoPlace", "NoSide", "NoText"])

    def test_any_refusal_is_straight_under_value_error(self):
        self.assertEqual(WallError.__bases__, (ValueError,))

    def test_each_is_straight_under_the_one(self):
        for refusal in REFUSALS:
            self.assertEqual(refusal.__bases__, (WallError,))

    def test_each_is_defined_in_its_file(self):
        for refusal in [WallError] + REFUSALS:
            self.assertEqual(refusal.__module__, "onewalls.errors")
            self.assertIs(getattr(errors, refusal.__name__), refusal)

    def test_each_is_caught_by_its_own_name_only(self):
        for raised in (NoNet, NoPlace, NoSide, NoText):
            for caught in (NoNet, NoPlace, NoSide, NoText):
                self.assertEqual(issubclass(raised, caught), raised is caught)


if __name__ == "__main__":
    unittest.main()
