import unittest

from volumemend import errors

REFUSALS = (
    errors.NoLayout, errors.NoVolume, errors.NoText, errors.NoPath, errors.NotFile, errors.NotFolder,
    errors.BadName, errors.BadNumber, errors.Taken, errors.IntoItself, errors.NotEmpty, errors.TooFar, errors.Full,
)


class Refusals(unittest.TestCase):
    def test_there_are_thirteen_of_them(self):
        self.assertEqual(len(set(REFUSALS)), 13)

    def test_the_base_stands_under_value_error(self):
        self.assertTrue(issubclass(errors.VolumeError, ValueError))

    def test_each_stands_under_the_base_and_under_no_other_one(self):
        for refusal in REFUSALS:
            with self.subTest(refusal=refusal.__name__):
                self.assertTrue(issubclass(refusal, errors.VolumeError))
                self.assertIsNot(refusal, errors.VolumeError)
                others = [other for other in REFUSALS if other is not refusal]
                self.assertFalse([other for other in others if issubclass(refusal, other)])

    def test_the_ones_with_a_place_have_it_from_the_start(self):
        for refusal in (errors.NoVolume, errors.NoText):
            for at in (-1, 0, 7):
                self.assertEqual(refusal(at).at, at)


if __name__ == "__main__":
    unittest.main()
