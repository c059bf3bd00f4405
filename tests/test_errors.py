"""The errors: what they stand under and what they store."""

import unittest

from toldorfree import errors

STORED = {"BadNumber": "name", "BadRow": "place", "BadLot": "place", "BadNames": "column", "BadGroup": "place",
          "BadParting": "place", "BadBlocks": "column", "BadText": "line", "OtherSigns": "signs",
          "OtherColumns": "columns", "NoRow": "row", "NotFair": "lot", "NotWhole": "lot", "NotCut": "lot",
          "NotSplit": "lot", "OtherShape": "word", "Loose": "column", "TooMany": "limit", "BadDeed": "name"}


class ErrorsTest(unittest.TestCase):
    def test_table_error_stands_under_exception(self):
        self.assertEqual(errors.TableError.__bases__, (Exception,))

    def test_each_stands_directly_under_table_error(self):
        for name in STORED:
            self.assertEqual(getattr(errors, name).__bases__, (errors.TableError,), name)

    def test_each_stores_its_value(self):
        for name, attribute in STORED.items():
            for value in (3, -1, "word", (0, 2), [1], None):
                self.assertIs(getattr(getattr(errors, name)(value), attribute), value, name)

    def test_each_takes_one_argument(self):
        for name in STORED:
            with self.assertRaises(TypeError):
                getattr(errors, name)()
            with self.assertRaises(TypeError):
                getattr(errors, name)(1, 2)

    def test_no_error_stores_the_value_elsewhere(self):
        for name, attribute in STORED.items():
            self.assertEqual(list(vars(getattr(errors, name)(1))), [attribute])

    def test_a_row_of_any_kind_can_be_stored(self):
        row = [[{}], object()]
        with self.assertRaises(errors.NoRow) as caught:
            raise errors.NoRow(row)
        self.assertIs(caught.exception.row, row)
        self.assertIsInstance(str(caught.exception), str)


if __name__ == "__main__":
    unittest.main()
