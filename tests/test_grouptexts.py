import re
import unittest

from sevenninths.errors import InvalidText
from sevenninths.groups import Group
from sevenninths.grouptexts import read_group, write_group
from tests.helper import cyclic, drawing, permutations, raised, small_tables, tables
from tests.test_groups import first_fault

NUMBER = "(0|[1-9][0-9]?)"


def text_of(table):
    return f"group {len(table)}\n" + "\n".join(",".join(str(value) for value in row) for row in table)


def row_in(line, n):
    """The row that a line tells, or None."""
    if not re.fullmatch(f"{NUMBER}(,{NUMBER})*", line, re.ASCII):
        return None
    row = [int(word) for word in line.split(",")]
    return row if len(row) == n and max(row) < n else None


def fault(text):
    """The place that the document tells for a text, or None if it is a group's."""
    starts = [0] + [place + 1 for place, sign in enumerate(text) if sign == "\n"]
    lines = [text[start:end - 1] for start, end in zip(starts, starts[1:] + [len(text) + 1])]
    head = re.fullmatch("group ([1-9][0-9]?)", lines[0], re.ASCII)
    if not head or int(head[1]) > 48:
        return 0
    n = int(head[1])
    rows = []
    for place, line in enumerate(lines[1:], 1):
        rows.append(row_in(line, n))
        if place > n or rows[-1] is None:
            return starts[place]
    if len(rows) < n:
        return len(text)
    return 0 if first_fault(rows) else None


class TextsTest(unittest.TestCase):
    def check(self, text):
        told = fault(text)
        for _ in range(2):
            if told is None:
                group = read_group(text)
                self.assertIs(type(group), Group)
                self.assertEqual(write_group(group), text)
            else:
                error = raised(InvalidText, read_group, text)
                self.assertIs(error.text, text)
                self.assertEqual(error.at, told)
        return told

    def test_written_and_read(self):
        for table in tables():
            group = Group(table)
            for _ in range(2):
                self.assertEqual(write_group(group), text_of(table))
                self.assertEqual(read_group(text_of(table)), group)
                self.assertEqual(read_group(text=write_group(group=group)).table, table)
            self.assertIsNone(self.check(text_of(table)))
        self.assertEqual(write_group(Group(cyclic(2))), "group 2\n0,1\n1,0")
        self.assertEqual(write_group(Group(cyclic(1))), "group 1\n0")

    def test_plain_faults(self):
        for text, at in (("", 0), ("group", 0), ("group ", 0), ("group 0", 0), ("group 49", 0), ("group 01\n0", 0),
                         ("group 1", 7), ("group 1\n", 8), ("group 1\n0\n", 10), ("group 1\n0\n0", 10), ("group 1\n1", 8),
                         ("group 1\n00", 8), ("group 1\n-0", 8), ("group 1\n+0", 8), ("group 1\n 0", 8),
                         ("group 1\n0 ", 8), ("group 1\n0,", 8), ("group 1\n0,0", 8), ("group  1\n0", 0),
                         (" group 1\n0", 0), ("Group 1\n0", 0), ("group 1 \n0", 0), ("group +1\n0", 0),
                         ("group -1\n0", 0), ("group 001\n0", 0), ("group 1\r\n0", 0), ("\ngroup 1\n0", 0),
                         ("group 1\n0\r", 8), ("group 1\n\n0", 8), ("group 2\n0,1", 11), ("group 2\n0,1\n", 12),
                         ("group 2\n0,1\n1,2", 12), ("group 2\n0,1\n1", 12), ("group 2\n0,1\n1,0,0", 12),
                         ("group 2\n0,1\n1,1", 0), ("group 2\n0,1\n0,1", 0), ("group 2\n0,1\n1,0\n", 16),
                         ("group 2\n0,1\n1,0\n1,0", 16), ("group 2\n0,01\n1,0", 8), ("group 2\n0,001\n1,0", 8),
                         ("group 2\n0,100\n1,0", 8), ("group 2\n0,,1\n1,0", 8), ("group 2\n,1\n1,0", 8),
                         ("group 2\n0;1\n1,0", 8), ("group 2\n0,1\n1,\u0660", 12), ("group \u0661\n0", 0),
                         ("group 1\n\u00b2", 8), ("group 100\n0", 0), ("group 1e0\n0", 0), ("group 1\x0b0", 0),
                         ("group 1\u20280", 0), ("group 2\n0,1\x0c1,0", 8)):
            self.assertEqual(self.check(text), at, repr(text))

    def test_signs_put_in_left_out_or_exchanged(self):
        draw = drawing(41)
        for table in small_tables(12) + [cyclic(24), cyclic(48)]:
            text = text_of(table)
            for _ in range(40):
                place = draw.randrange(len(text) + 1)
                sign = draw.choice("0123456789,\n -+gx\u0663")
                end = place + draw.choice((0, 1, 1))
                self.check(text[:place] + draw.choice((sign, sign, "")) + text[end:])

    def test_lines_left_out_doubled_or_exchanged(self):
        draw = drawing(42)
        for table in tables():
            lines = text_of(table).split("\n")
            for _ in range(8):
                place, other = draw.randrange(len(lines)), draw.randrange(len(lines))
                self.check("\n".join(lines[:place] + lines[place + 1:]))
                self.check("\n".join(lines[:place] + [lines[place]] + lines[place:]))
                self.check("\n".join(lines[:place] + [""] + lines[place:]))
                swapped = list(lines)
                swapped[place], swapped[other] = lines[other], lines[place]
                self.check("\n".join(swapped))
            self.check("\n".join(lines) + "\n")
            self.check("\n".join(lines) + "\n\n")
            self.check("\n" + "\n".join(lines))
            self.check("\n".join(lines[:-1]))
            self.check("\n".join(lines[:-1]) + "\n")

    def test_another_size(self):
        for table in (cyclic(1), cyclic(2), permutations(3), cyclic(47), cyclic(48)):
            rows = text_of(table).split("\n", 1)[1]
            for size in list(range(-2, 52)) + ["", "x", "06", "6 ", " 6", "100", str(10 ** 30)]:
                told = self.check(f"group {size}\n{rows}")
                self.assertEqual(told is None, size == len(table))

    def test_tables_of_no_group(self):
        draw = drawing(43)
        for table in small_tables(12):
            n = len(table)
            for _ in range(10):
                rows = [list(row) for row in table]
                rows[draw.randrange(n)][draw.randrange(n)] = draw.randrange(n)
                self.check(text_of(rows))
        self.check(text_of([[0] * 48] * 48))

    def test_long_texts(self):
        self.check("group 48\n" + "0" * 19000)
        self.check("group 2" + "\n0,1" * 4000)
        self.check("\n" * 20000)
