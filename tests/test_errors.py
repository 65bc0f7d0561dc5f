import unittest

from sevenninths import errors
from tests.helper import drawing

NAMES = {
    "InvalidNumber": ("value",), "InvalidGroup": ("part", "place"), "InvalidSubset": ("value",),
    "InvalidMap": ("value",), "InvalidSamples": ("value",), "InvalidTable": ("value",),
    "InvalidText": ("text", "at"), "InvalidLine": ("line", "at"), "UnknownWord": ("word",),
    "Undefined": ("what",), "TooMany": ("what",), "NothingToUndo": ("word",),
}


def values():
    """Values of many kinds, new ones at each call."""
    draw = drawing(3)
    large = [draw.randrange(-10 ** 40, 10 ** 40) for _ in range(5)]
    return [0, 1, -1, None, True, False, "", "put 1", "rows", (), (1, (2,)), [], [1, [2]], {"a": 1}, 2.5, *large]


class ErrorsTest(unittest.TestCase):
    def test_arguments_themselves_are_kept(self):
        draw = drawing(4)
        for name, parts in NAMES.items():
            kind = getattr(errors, name)
            for _ in range(40):
                given = [draw.choice(values()) for _ in parts]
                for error in (kind(*given), kind(**dict(zip(parts, given)))):
                    for part, value in zip(parts, given):
                        self.assertIs(getattr(error, part), value)

    def test_a_list_changed_behind_the_making_is_seen_changed(self):
        for name, parts in NAMES.items():
            given = [[k] for k in range(len(parts))]
            error = getattr(errors, name)(*given)
            for part, value in zip(parts, given):
                value.append("later")
                self.assertIs(getattr(error, part), value)
                self.assertEqual(getattr(error, part)[-1], "later")

    def test_two_arguments_are_not_exchanged(self):
        for name, parts in NAMES.items():
            if len(parts) == 2:
                error = getattr(errors, name)("first", "second")
                self.assertEqual([getattr(error, part) for part in parts], ["first", "second"])

    def test_each_stands_directly_under_ninth_error_and_no_other(self):
        self.assertEqual(errors.NinthError.__bases__, (ValueError,))
        for name in NAMES:
            kind = getattr(errors, name)
            self.assertEqual(kind.__bases__, (errors.NinthError,))
            for other in NAMES:
                self.assertEqual(issubclass(kind, getattr(errors, other)), name == other)

    def test_each_can_be_raised_and_caught(self):
        for name, parts in NAMES.items():
            kind = getattr(errors, name)
            for caught in (kind, errors.NinthError, ValueError):
                with self.assertRaises(caught) as held:
                    raise kind(*parts)
                self.assertEqual([getattr(held.exception, part) for part in parts], list(parts))

    def test_there_are_just_these(self):
        found = {name for name, value in vars(errors).items()
                 if isinstance(value, type) and issubclass(value, errors.NinthError)}
        self.assertEqual(found, {"NinthError", *NAMES})
