import unittest

from pulseshare import errors

KINDS = ("BadFrame", "BadShare", "BadWidth", "BadBegins", "BadRuns", "NoRoom", "BadText")


class ErrorsTest(unittest.TestCase):
    def test_any_refusal_is_a_value_error(self):
        self.assertEqual(errors.PulseError.__bases__, (ValueError,))

    def test_each_is_a_pulse_error(self):
        for name in KINDS:
            with self.subTest(name=name):
                kind = getattr(errors, name)
                self.assertEqual(kind.__bases__, (errors.PulseError,))

    def test_none_is_under_another_one(self):
        for name in KINDS:
            for other in KINDS:
                if name != other:
                    with self.subTest(name=name, other=other):
                        under = issubclass(getattr(errors, name), getattr(errors, other))
                        self.assertFalse(under)

    def test_each_is_defined_there_under_its_name(self):
        for name in KINDS + ("PulseError",):
            with self.subTest(name=name):
                kind = getattr(errors, name)
                self.assertEqual(kind.__module__, "pulseshare.errors")
                self.assertEqual(kind.__name__, name)

    def test_a_bad_text_bears_its_place(self):
        for place in (0, 7, 64):
            self.assertEqual(errors.BadText(place).place, place)


if __name__ == "__main__":
    unittest.main()
