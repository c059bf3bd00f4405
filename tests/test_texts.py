"""Texts: [7] and the section toldorfree/texts.py."""

import unittest

from tests.asking import Asking
from tests.samples import FAIR, UNFAIR
from toldorfree.errors import BadRow, BadText
from toldorfree.tables import Table
from toldorfree.texts import table_from, table_text


class TextsTest(Asking):
    def bad(self, line, text, cause="none"):
        with self.assertRaises(BadText) as caught:
            table_from(text)
        self.assertEqual(caught.exception.line, line)
        if line > 0:
            self.assertIs(caught.exception.__cause__.__class__, BadRow)
            self.assertEqual(caught.exception.__cause__.place, line - 1 if cause == "none" else cause)

    def test_text(self):
        self.assertEqual(table_text(Table(36, [(35, 0), (10, 9), (2, 11)])), "signs 36 columns 2\n2 11\n10 9\n35 0")
        self.assertEqual(table_text(Table(2, [(1,)])), "signs 2 columns 1\n1")

    def test_there_and_back(self):
        for table in FAIR + UNFAIR + (Table.full(36, 2),):
            self.assertEqual(table_from(table_text(table)), table)

    def test_lines_in_any_order(self):
        self.assertEqual(table_from("signs 3 columns 2\n2 0\n0 1\n0 0"), Table(3, [(0, 0), (0, 1), (2, 0)]))

    def test_no_text(self):
        for text in (None, 3, b"signs 2 columns 1\n0", ["signs 2 columns 1", "0"], ("x",)):
            self.bad(0, text)

    def test_wrong_first_line(self):
        for line in ("", "signs 1 columns 1", "signs 37 columns 1", "signs 2 columns 0", "signs 2 columns 9",
                     "signs 02 columns 1", "signs +2 columns 1", "signs 2  columns 1", " signs 2 columns 1",
                     "signs 2 columns 1 ", "Signs 2 columns 1", "signs 2 columns", "signs 2", "signs 2 columns 1\r",
                     "signs 2 columns 1 0", "columns 1 signs 2", "signs 2\tcolumns 1", "signs two columns 1",
                     "signs \u0662 columns 1", "signs 2 columns 1.0"):
            self.bad(0, line)
            self.bad(0, line + "\n0")

    def test_no_second_line(self):
        self.bad(1, "signs 2 columns 1", -1)

    def test_wrong_line(self):
        for line in ("", " ", "0", "0 1 1", "0  1", " 0 1", "0 1 ", "0 2", "0 -1", "00 1", "+0 1", "0 1\r", "0,1",
                     "0\t1", "0 x", "0 \u0661", "0 1\x0b"):
            self.bad(1, "signs 2 columns 2\n" + line)
            self.bad(2, "signs 2 columns 2\n1 1\n" + line + "\n1 1\n")

    def test_line_feed_at_the_end(self):
        self.bad(2, "signs 2 columns 1\n0\n")
        self.bad(1, "signs 2 columns 1\n")

    def test_row_twice(self):
        self.bad(3, "signs 2 columns 2\n0 1\n1 1\n0 1\nx")

    def test_too_many_lines(self):
        table = Table.full(36, 2)
        rows = [f"{x} {y} 0" for x in range(36) for y in range(36)] + [f"0 {y} 1" for y in range(5)]
        self.assertEqual(table_from("\n".join(["signs 36 columns 3"] + rows[:1300])).many, 1300)
        self.bad(1301, "\n".join(["signs 36 columns 3"] + rows))
        self.bad(7, "\n".join(["signs 36 columns 3"] + rows[:6] + ["x"] + rows))
        self.assertEqual(table.many, 1296)

    def test_example(self):
        self.assertEqual(table_text(Table.parity(2, 2)), "signs 2 columns 2\n0 0\n1 1")


if __name__ == "__main__":
    unittest.main()
