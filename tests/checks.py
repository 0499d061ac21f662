"""What the tests of several files share."""
import unittest

from risingday import errors

ATTRIBUTES = {
    "BadPart": "part", "BadNumber": "number", "BadIndex": "index", "BadName": "name", "BadKey": "key",
    "BadErrand": "index", "BadOrder": "name", "NoWay": "pair", "Ring": "ring", "BadThing": "thing",
    "NotSo": "word", "BadPaper": "reason", "BadTiding": "index", "BadMenu": "index", "BadText": "line",
    "BadDeed": "index", "Promised": "key", "Fixed": "key", "TooMany": "limit", "NothingToUndo": "name",
}

# None of these is an integer, a moment, a list, a tuple, a dict or a name.
ODD = [True, False, "", "5", "Inn", b"inn", {1}, object(), ValueError, len]
NO_COUNTS = [*ODD, None, -1, [5], (5,), {}]
NO_MOMENTS = [*ODD, -1, [5], (5,), {}]
NO_LISTS = [*ODD, None, 5, {}, {0: 1}]
NO_NAMES = [True, False, None, 5, b"inn", "", "Inn", "inn ", "in n", "inn1", "in-n", "abcdefghi", "inn\n", ["inn"],
            ("inn",), {"inn"}, {}, object()]


def known(minute):
    """A number by which minutes and never are compared."""
    return 10 ** 30 if minute is None else minute


class Promises(unittest.TestCase):
    """A test case that looks at errors and at what they store."""

    def refuses(self, error, stored, call, *told, **named):
        """The call raises just this error, with this very value."""
        with self.assertRaises(error) as caught:
            call(*told, **named)
        self.assertIs(caught.exception.__class__, error)
        found = getattr(caught.exception, ATTRIBUTES[error.__name__])
        self.assertIs(found.__class__, stored.__class__)
        self.assertTrue(found is stored or found == stored, (found, stored))

    def refuses_each(self, error, values, call):
        """The call of each value raises this error with the value."""
        for value in values:
            with self.subTest(value=value):
                self.refuses(error, value, call, value)

    def refuses_part(self, part, values, call):
        """The call of each value raises BadPart with this part."""
        for value in values:
            with self.subTest(value=value):
                self.refuses(errors.BadPart, part, call, value)

    def cannot_be_iterated(self, thing):
        with self.assertRaises(TypeError):
            iter(thing)
        with self.assertRaises(TypeError):
            list(thing)
