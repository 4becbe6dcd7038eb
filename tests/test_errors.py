import unittest

from linkless import errors
from ways import ANYTHING

WITH_GIVEN = ["InvalidGraph", "InvalidEdge", "InvalidVertex", "InvalidTriangle", "InvalidNumber", "InvalidRotation",
              "TooMany"]
WITH_INDEX = ["InvalidText", "InvalidMoves", "InvalidPasses", "InvalidLines"]
CASES = [(name, "given") for name in WITH_GIVEN] + [(name, "index") for name in WITH_INDEX]


class ErrorsTest(unittest.TestCase):
    def test_each_keeps_its_attribute_by_position_and_by_name(self):
        for name, attribute in CASES:
            made = getattr(errors, name)
            for value in ANYTHING:
                with self.subTest(name=name):
                    for error in (made(value), made(**{attribute: value})):
                        self.assertEqual(list(vars(error)), [attribute])
                        self.assertIs(getattr(error, attribute), value)

    def test_each_takes_just_its_attribute(self):
        for name, attribute in CASES:
            made = getattr(errors, name)
            other = "index" if attribute == "given" else "given"
            for rows, more in (((), {}), ((1, 2), {}), ((), {other: 1})):
                with self.subTest(name=name, rows=rows, more=more), self.assertRaises(TypeError):
                    made(*rows, **more)

    def test_each_stands_under_its_base_alone(self):
        base = (ValueError, Exception, BaseException, object)
        self.assertEqual(errors.LinkError.__mro__, (errors.LinkError,) + base)
        for name, _ in CASES:
            made = getattr(errors, name)
            self.assertEqual(made.__mro__, (made, errors.LinkError) + base)

    def test_the_base_has_no_attributes(self):
        self.assertEqual(vars(errors.LinkError()), {})

    def test_all_are_defined_there(self):
        for name in ["LinkError"] + WITH_GIVEN + WITH_INDEX:
            self.assertEqual(getattr(errors, name).__module__, "linkless.errors")
            self.assertEqual(getattr(errors, name).__name__, name)

    def test_each_is_caught_as_its_base_and_shown(self):
        for name, _ in CASES:
            for value in ANYTHING:
                try:
                    raise getattr(errors, name)(value)
                except errors.LinkError as error:
                    self.assertTrue(str(error))


if __name__ == "__main__":
    unittest.main()
