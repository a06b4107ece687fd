import unittest

from shutroads import errors

NAMES = (
    "BadMap", "BadState", "BadRoad", "BadWorld", "TooLarge", "CutOff", "BadTools", "BadPosition", "BadBound", "TooShort",
    "BadRule", "NothingDone", "BadRoads", "BadText",
)


class ErrorClasses(unittest.TestCase):
    def test_the_common_error_is_a_direct_value_error(self):
        self.assertEqual(errors.RoadError.__bases__, (ValueError,))
        self.assertEqual(errors.RoadError.__module__, "shutroads.errors")

    def test_each_error_is_a_direct_subclass_in_its_file(self):
        for name in NAMES:
            with self.subTest(name=name):
                found = getattr(errors, name)
                self.assertEqual(found.__bases__, (errors.RoadError,))
                self.assertEqual((found.__module__, found.__name__), ("shutroads.errors", name))

    def test_there_are_no_other_direct_subclasses(self):
        self.assertEqual({found.__name__ for found in errors.RoadError.__subclasses__()}, set(NAMES))

    def test_each_error_is_caught_by_its_own_name_only(self):
        for name in NAMES:
            with self.subTest(name=name):
                with self.assertRaises(getattr(errors, name)) as caught:
                    raise getattr(errors, name)("PLACES")
                others = [other for other in NAMES if isinstance(caught.exception, getattr(errors, other))]
                self.assertEqual(others, [name])

    def test_attributes_are_set_when_the_error_is_created(self):
        self.assertEqual(errors.BadMap("MOST").part, "MOST")
        self.assertIsNone(errors.BadMap(None).part)
        self.assertIsNone(errors.BadMap().part)
        self.assertEqual(errors.BadRoads(3).index, 3)
        self.assertIsNone(errors.BadRoads(None).index)
        self.assertEqual(errors.BadText(2).row, 2)


if __name__ == "__main__":
    unittest.main()
