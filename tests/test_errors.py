import unittest

from samples import odd_values
from wraptrails import errors

ATTRIBUTES = {
    "UnknownGateway": ("name",),
    "BadStep": ("step",),
    "NoEntry": ("entry",),
    "NotNeeded": ("entry",),
    "HasRevoke": (),
    "Unnoticed": (),
    "BadRegions": ("regions",),
    "BadGateway": ("name", "members", "kind"),
    "TakenGateway": ("name",),
    "TooMany": ("count",),
    "ClosesCycle": ("cycle",),
    "NothingDone": (),
    "BadMark": ("mark",),
    "BadText": ("line",),
    "BadLine": ("line",),
}


def caught(make):
    """The error, after it was raised and caught by its oldest base."""
    try:
        raise make()
    except ValueError as error:
        return error


class Errors(unittest.TestCase):
    def check(self, error, name, attributes, values):
        self.assertIs(type(error), getattr(errors, name))
        self.assertIsInstance(error, errors.TrailError)
        self.assertIsInstance(error, ValueError)
        for attribute, value in zip(attributes, values, strict=True):
            self.assertIs(getattr(error, attribute), value)

    def test_values_are_kept_as_they_are(self):
        values = odd_values() + [object(), 10 ** 5000]
        for name, attributes in ATTRIBUTES.items():
            make = getattr(errors, name)
            for at in range(len(values)):
                given = [values[(at + step) % len(values)] for step in range(len(attributes))]
                self.check(caught(lambda: make(*given)), name, attributes, given)
                self.check(caught(lambda: make(**dict(zip(attributes, given)))), name, attributes, given)

    def test_attributes_stay_apart(self):
        error = errors.BadGateway(kind=1, name=2, members=3)
        self.assertEqual((error.name, error.members, error.kind), (2, 3, 1))

    def test_no_argument_too_few_or_too_many(self):
        for name, attributes in ATTRIBUTES.items():
            if attributes:
                with self.assertRaises(TypeError):
                    getattr(errors, name)()
                with self.assertRaises(TypeError):
                    getattr(errors, name)(*attributes, "more")

    def test_bases(self):
        self.assertEqual(errors.TrailError.__bases__, (ValueError,))
        for name in ATTRIBUTES:
            self.assertEqual(getattr(errors, name).__bases__, (errors.TrailError,), name)

    def test_there_are_no_others(self):
        classes = [name for name, thing in vars(errors).items() if isinstance(thing, type)]
        self.assertEqual(sorted(classes), sorted([*ATTRIBUTES, "TrailError"]))
        self.assertEqual(len(ATTRIBUTES), 15)

    def test_one_is_not_caught_as_another(self):
        for name, attributes in ATTRIBUTES.items():
            error = getattr(errors, name)(*attributes)
            for other in ATTRIBUTES:
                self.assertEqual(isinstance(error, getattr(errors, other)), name == other)


if __name__ == "__main__":
    unittest.main()
