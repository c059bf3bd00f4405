"""What the tests of several modules ask in the same words."""

import unittest

from toldorfree.errors import BadLot
from tests.samples import NO_INTEGERS, NO_LISTS


class Asking(unittest.TestCase):
    def stored(self, error, attribute, call, *values, **named):
        """What the error stores that the call raises; it must be of just this class."""
        with self.assertRaises(error) as caught:
            call(*values, **named)
        self.assertIs(caught.exception.__class__, error)
        return getattr(caught.exception, attribute)

    def wrong(self, error, attribute, value, call, *values, **named):
        """The call raises the error, which stores the value."""
        self.assertEqual(self.stored(error, attribute, call, *values, **named), value)

    def wrong_lots(self, columns, call):
        """call(lot) raises BadLot as in [2] for lots of so many columns."""
        for lot in NO_LISTS:
            self.wrong(BadLot, "place", -1, call, lot)
        for entry in NO_INTEGERS + (-1, columns, 99):
            self.wrong(BadLot, "place", 0, call, [entry])
            if columns > 1:
                self.wrong(BadLot, "place", 1, call, (1, entry))
            self.wrong(BadLot, "place", 0, call, (entry, 0, 0))
        self.wrong(BadLot, "place", 1, call, [0, 0])
        if columns > 2:
            self.wrong(BadLot, "place", 2, call, (2, 0, 2, 0, columns))
            self.wrong(BadLot, "place", 2, call, [1, 2, -1, "x"])

    def wrong_lot_lightly(self, call, *, columns=3):
        """call(lot) raises BadLot as in [2]; a few lots only, where the module leaves lots to another one."""
        self.wrong(BadLot, "place", -1, call, {0})
        self.wrong(BadLot, "place", 0, call, [True])
        self.wrong(BadLot, "place", 1, call, (0, columns))
        self.wrong(BadLot, "place", 1, call, (0, 0))

    def is_tuples(self, value):
        """No list stands in the value, neither itself nor within."""
        self.assertNotIsInstance(value, list)
        if isinstance(value, tuple):
            for part in value:
                self.is_tuples(part)
