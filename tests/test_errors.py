import unittest

from homequay import errors
from tests.things import any_things

VALUES = {
    "BadTable": ("part", "at", "why"),
    "BadLine": ("row", "why"),
    "NoPlace": ("name",),
    "NoRide": ("name",),
    "NoWay": ("name",),
    "NoGroup": ("name",),
    "NoHomes": ("found",),
    "NoTurn": ("found",),
    "NoStep": ("found",),
    "NoSpot": ("found",),
    "NoPlan": ("found",),
    "NoJourney": ("at",),
    "NoOrder": ("at",),
    "NoSeat": ("name",),
    "Gone": ("name",),
    "NoTable": (),
    "NoRow": ("found",),
}


class ErrorsTest(unittest.TestCase):
    def test_each_class_stands_straight_under_quay_error(self):
        self.assertEqual(len(VALUES), 17)
        for name in VALUES:
            self.assertEqual(getattr(errors, name).__bases__, (errors.QuayError,), name)
        self.assertEqual(errors.QuayError.__bases__, (ValueError,))

    def test_no_two_names_are_one_class(self):
        classes = {getattr(errors, name) for name in VALUES}
        self.assertEqual(len(classes), 17)
        self.assertNotIn(errors.QuayError, classes)

    def test_each_keeps_its_values_of_any_things(self):
        for name, values in VALUES.items():
            for thing in any_things():
                things = [(thing, place) for place in range(len(values))]
                error = getattr(errors, name)(*things)
                self.assertEqual([getattr(error, value) for value in values], things, name)

    def test_a_bare_thing_is_kept_as_it_is(self):
        for thing in any_things():
            self.assertEqual(errors.NoPlan(thing).found, thing)
            self.assertIs(errors.NoPlan(thing).found.__class__, thing.__class__)
            str(errors.NoPlan(thing))

    def test_each_can_be_raised_and_taken(self):
        for name, values in VALUES.items():
            for kind in (getattr(errors, name), errors.QuayError, ValueError):
                with self.assertRaises(kind):
                    raise getattr(errors, name)(*values)


if __name__ == "__main__":
    unittest.main()
