import unittest

from inflate import errors

NAMES = ("NoFrame", "NoScale", "NoShape", "NoCut", "NoKind", "NoAddress", "NoShares", "NoText", "NoRow",
         "TooMany", "NoFill")
LACKS = (("outside", 0, 1), ("overlap", 0, 1, 2), ("gap", 1, (2, -1)), None)


class ErrorsTest(unittest.TestCase):
    def test_floor_error_is_a_value_error(self):
        self.assertEqual(errors.FloorError.__bases__, (ValueError,))

    def test_each_stands_straight_under_floor_error(self):
        for name in NAMES:
            self.assertEqual(getattr(errors, name).__bases__, (errors.FloorError,), name)

    def test_none_stands_under_another_one(self):
        for name in NAMES:
            for other in NAMES:
                under = issubclass(getattr(errors, name), getattr(errors, other))
                self.assertEqual(under, name == other, (name, other))

    def test_each_is_raised_and_taken_by_its_name(self):
        for name in NAMES[:-1]:
            kind = getattr(errors, name)
            for words in ((), ("some words",)):
                for taken in (kind, errors.FloorError, ValueError):
                    with self.assertRaises(taken):
                        raise kind(*words)

    def test_no_fill_tells_its_lack(self):
        for lack in LACKS:
            self.assertEqual(errors.NoFill(lack).lack, lack)
            with self.assertRaises(errors.NoFill) as taken:
                raise errors.NoFill(lack)
            self.assertEqual(taken.exception.lack, lack)

    def test_each_no_fill_has_a_lack_of_its_own(self):
        made = [errors.NoFill(lack) for lack in LACKS]
        self.assertEqual([error.lack for error in made], list(LACKS))

    def test_no_fill_wants_a_lack(self):
        with self.assertRaises(TypeError):
            errors.NoFill()


if __name__ == "__main__":
    unittest.main()
