import unittest

from mannerports import errors
from samples import deep_list

FIELDS = {
    "NoNet": ("word", "path"),
    "NoText": ("row",),
    "NoMoment": ("number",),
    "TooMany": ("word",),
    "NoJoin": ("word",),
    "NoAlike": ("word", "number"),
    "NoLeast": ("word", "number"),
    "NoWish": ("word", "number"),
    "NoTable": ("word",),
}
OF_A_TEXT = ("NoBack", "NoRow")


class ErrorsTest(unittest.TestCase):
    def test_base_stands_under_value_error(self):
        self.assertEqual(errors.MannerError.__bases__, (ValueError,))

    def test_each_stands_straight_under_the_base_alone(self):
        for name in list(FIELDS) + list(OF_A_TEXT):
            self.assertEqual(getattr(errors, name).__bases__, (errors.MannerError,), name)

    def test_no_other_errors(self):
        found = [name for name, value in vars(errors).items() if isinstance(value, type)]
        self.assertEqual(sorted(found), sorted(list(FIELDS) + list(OF_A_TEXT) + ["MannerError"]))

    def test_each_keeps_the_very_things(self):
        kinds = ["word", "", 7, -1, True, None, [1, [2]], (1, ("a",)), {"a": []}, deep_list(90)]
        for name, fields in FIELDS.items():
            for shift in range(len(kinds)):
                made_of = [kinds[(shift + k) % len(kinds)] for k in range(len(fields))]
                error = getattr(errors, name)(*made_of)
                for field, thing in zip(fields, made_of):
                    self.assertIs(getattr(error, field), thing, name)

    def test_each_takes_just_its_things(self):
        for name, fields in FIELDS.items():
            with self.assertRaises(TypeError):
                getattr(errors, name)(*(["x"] * (len(fields) + 1)))
            with self.assertRaises(TypeError):
                getattr(errors, name)(*(["x"] * (len(fields) - 1)))

    def test_messages_are_texts(self):
        for name, fields in FIELDS.items():
            self.assertIsInstance(str(getattr(errors, name)(*([None] * len(fields)))), str)

    def test_made_of_a_text(self):
        for name in OF_A_TEXT + ("MannerError",):
            self.assertEqual(str(getattr(errors, name)("why not")), "why not")

    def test_caught_by_the_base(self):
        for name, fields in FIELDS.items():
            with self.assertRaises(errors.MannerError):
                raise getattr(errors, name)(*(["x"] * len(fields)))


if __name__ == "__main__":
    unittest.main()
