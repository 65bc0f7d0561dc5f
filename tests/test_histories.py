import re
import unittest

from sevenninths.desk import Desk
from sevenninths.errors import InvalidText, NothingToUndo
from sevenninths.groups import Group
from sevenninths.histories import history_end, history_holds, history_of
from tests.helper import (cyclic, drawing, even_permutations, neutral_of, permutations, quaternions, raised, shuffled,
                          turns, words)
from tests.test_desk import Model, close_to, pairs_of_tables, text_of
from tests.test_groups import first_fault
from tests.test_grouptexts import row_in, text_of as group_text
from tests.test_maps import plain_broken

SMALL = (cyclic(4), cyclic(2))


def table_at(lines, first):
    """The table of a group of at most 24 elements whose lines begin there, or the number of the first wrong line."""
    if first == len(lines):
        return None, first
    head = re.fullmatch("group ([1-9][0-9]?)", lines[first], re.ASCII)
    if not head or int(head[1]) > 24:
        return None, first
    rows = []
    for number in range(first + 1, first + 1 + int(head[1])):
        if number == len(lines) or row_in(lines[number], int(head[1])) is None:
            return None, number
        rows.append(tuple(row_in(lines[number], int(head[1]))))
    return (None, first) if first_fault(rows) else (tuple(rows), None)


def fact_lines(model):
    hom = close_to(model.one, model.other, model.table)
    return [f"broken {plain_broken(model.one, model.other, model.table)}", f"hom {'none' if hom is None else text_of(hom)}"]


def judged(text):
    """The map at the end of a text that holds, and None; or None and the place that is told."""
    lines = text.split("\n")
    starts = [0] + [place + 1 for place, sign in enumerate(text) if sign == "\n"] + [len(text)]
    one, fault = table_at(lines, 0)
    if fault is None:
        other, fault = table_at(lines, len(one) + 1)
    if fault is not None:
        return None, starts[fault]
    model = Model(one, other)
    number = len(one) + len(other) + 2
    while number < len(lines):
        if re.match("[^ ]*", lines[number])[0] not in ("put", "hom", "right") or isinstance(model.run(lines[number]), tuple):
            return None, starts[number]
        for told in fact_lines(model):
            number += 1
            if number == len(lines) or lines[number] != told:
                return None, starts[number]
        number += 1
    return model.table, None


def model_text(one, other, deeds):
    """The history of a desk on which these deeds stand."""
    model = Model(one, other)
    lines = [group_text(one), group_text(other)]
    for line in deeds:
        assert isinstance(model.run(line), str)
        lines += [line, *fact_lines(model)]
    return "\n".join(lines)


def drawn_deeds(one, other, count, draw):
    """Lines of deeds that can be done in their order."""
    model, lines = Model(one, other), []
    while len(lines) < count:
        line = draw.choice((f"put {draw.randrange(len(one))} {draw.randrange(len(other))}",) * 4 + ("right", "hom -"))
        if draw.random() < 0.2:
            hom = close_to(one, other, model.table)
            line = "right" if hom else "put 0 0"
        if isinstance(model.run(line), str):
            lines.append(line)
    return lines


class Case(unittest.TestCase):
    def check(self, text):
        end, at = judged(text)
        for _ in range(2):
            self.assertIs(history_holds(text=text), at is None)
            if at is None:
                self.assertEqual(history_end(text=text), end)
            else:
                error = raised(InvalidText, history_end, text)
                self.assertIs(error.text, text)
                self.assertEqual(error.at, at, repr(text))
        return at


class HistoryTest(Case):
    def test_no_deeds(self):
        for one, other in pairs_of_tables():
            desk = Desk(Group(one), Group(other))
            for _ in range(2):
                text = history_of(desk=desk)
                self.assertEqual(text, group_text(one) + "\n" + group_text(other))
                self.assertIs(history_holds(text), True)
                self.assertEqual(history_end(text), (neutral_of(other),) * len(one))
            self.assertIsNone(self.check(text))

    def test_many_deeds(self):
        draw = drawing(201)
        none = 0
        for one, other in pairs_of_tables():
            for count in (1, 2, 7, 40):
                desk, deeds = Desk(Group(one), Group(other)), drawn_deeds(one, other, count, draw)
                for line in deeds:
                    desk.run(line)
                    if draw.random() < 0.3:
                        desk.run(draw.choice(("broken", "near", "votes 0")))
                text = history_of(desk)
                self.assertEqual(text, model_text(one, other, deeds))
                self.assertEqual((history_of(desk), desk.lines), (text, tuple(deeds)))
                self.assertEqual(history_end(text), desk.table)
                self.assertIsNone(self.check(text))
                none += text.count("hom none")
        self.assertGreater(none, 20)

    def test_undone_ones_are_not_told(self):
        draw = drawing(202)
        for one, other in pairs_of_tables()[:8]:
            desk, deeds = Desk(Group(one), Group(other)), drawn_deeds(one, other, 12, draw)
            for line in deeds:
                desk.run(line)
            for kept in (11, 10, 5, 1, 0):
                while len(desk.lines) > kept:
                    desk.run("undo")
                text = history_of(desk)
                self.assertEqual(text, model_text(one, other, deeds[:kept]))
                self.assertEqual(history_end(text), desk.table)
            # The history is told without a change, so what was undone can be done again.
            for kept in range(1, 13):
                desk.run("redo")
                self.assertEqual(history_of(desk), model_text(one, other, deeds[:kept]))
            self.assertEqual(raised(NothingToUndo, desk.run, "redo").word, "redo")

    def test_shown_one(self):
        desk = Desk(Group(cyclic(4)), Group(cyclic(2)))
        for line in ("hom 1", "put 0 1", "undo", "put 1 0", "right", "put 2 0"):
            if line != "right":
                desk.run(line)
        text = ("group 4\n0,1,2,3\n1,2,3,0\n2,3,0,1\n3,0,1,2\ngroup 2\n0,1\n1,0\nhom 1\nbroken 0\nhom 0,1,0,1\nput 1 0\n"
                "broken 6\nhom none\nput 2 0\nbroken 6\nhom none")
        self.assertEqual(history_of(desk), text)
        self.assertEqual(history_end(text), (0, 0, 0, 1))
        # A desk of a group of one element has the list of no numbers.
        point = Desk(Group(cyclic(1)), Group(cyclic(3)))
        for line in ("put 0 2", "hom -", "right"):
            point.run(line)
        text = ("group 1\n0\ngroup 3\n0,1,2\n1,2,0\n2,0,1\nput 0 2\nbroken 1\nhom none\nhom -\nbroken 0\nhom 0\n"
                "right\nbroken 0\nhom 0")
        self.assertEqual((history_of(point), history_holds(text)), (text, True))


class FaultTest(Case):
    def drawn_text(self, draw, count=4):
        one, other = draw.choice(pairs_of_tables()[:9])
        return model_text(one, other, drawn_deeds(one, other, count, draw))

    def test_each_line_changed_left_out_doubled_and_exchanged(self):
        draw = drawing(203)
        for _ in range(12):
            lines = self.drawn_text(draw).split("\n")
            for k, line in enumerate(lines):
                place = draw.randrange(len(line))
                changed = line[:place] + draw.choice("0123456789,- x") + line[place + 1:]
                for row in (line + " ", " " + line, "", line + ",0", line[:-1], changed, line.upper(), line + "\r"):
                    self.check("\n".join(lines[:k] + [row] + lines[k + 1:]))
                self.check("\n".join(lines[:k] + lines[k + 1:]))
                self.check("\n".join(lines[:k] + [line] + lines[k:]))
                self.check("\n".join(lines[:k] + [""] + lines[k:]))
                other = draw.randrange(len(lines))
                rows = list(lines)
                rows[k], rows[other] = rows[other], rows[k]
                self.check("\n".join(rows))

    def test_lines_that_are_lacking(self):
        draw = drawing(204)
        for _ in range(6):
            text = self.drawn_text(draw)
            lines = text.split("\n")
            for count in range(len(lines) + 1):
                part = "\n".join(lines[:count])
                at = self.check(part)
                self.assertIn(at, (None, len(part)))
                self.check(part + "\n")
                self.check(part + "\n\n")
                self.check("\n" + part)
            for place in range(len(text)):
                self.check(text[:place])

    def test_empty_line_behind(self):
        draw = drawing(205)
        for count in (0, 1, 3):
            text = self.drawn_text(draw, count)
            self.assertIsNone(self.check(text))
            self.assertEqual(self.check(text + "\n"), len(text) + 1)
            self.assertEqual(self.check(text + "\n\n"), len(text) + 1)

    def test_another_number_or_homomorphism(self):
        head = (group_text(cyclic(4)) + "\n" + group_text(cyclic(2))).split("\n")
        for rows, wrong in ((["put 1 1", "broken 6", "hom none"], None), (["put 1 1", "broken 6", "hom 0,0,0,0"], 2),
                            (["put 1 1", "broken 6", "hom -"], 2), (["put 1 1", "broken 6", "hom"], 2),
                            (["put 1 1", "broken 6", "hom none "], 2), (["put 1 1", "broken 6", "right"], 2),
                            (["put 1 1", "broken 6", "hom None"], 2), (["put 1 1", "broken 6", ""], 2),
                            (["put 1 1", "broken 5", "hom none"], 1), (["put 1 1", "broken 06", "hom none"], 1),
                            (["put 1 1", "broken 6 ", "hom none"], 1), (["put 1 1", "broken -6", "hom none"], 1),
                            (["put 1 1", "broken", "hom none"], 1), (["put 1 1", "hom none", "broken 6"], 1),
                            (["put 1 1", "share 3/8", "hom none"], 1), (["put 1 1", "", "hom none"], 1),
                            (["hom 1", "broken 0", "hom 0,1,0,1"], None), (["hom 1", "broken 0", "hom none"], 2),
                            (["hom 1", "broken 0", "hom 0,0,0,0"], 2), (["hom 1", "broken 0", "hom 1"], 2),
                            (["hom 1", "broken 0", "hom 0,1,0,1,0"], 2), (["hom 1", "broken 0", "hom 0,1,0,1", ""], 3),
                            (["hom 1", "broken 0", "hom 0,1,0,1", "right", "broken 0", "hom 0,1,0,1"], None),
                            (["hom 1", "broken 0", "hom 0,1,0,1", "right", "broken 0", "hom 0,0,0,0"], 5),
                            (["hom 1", "broken 0", "hom 0,1,0,1", "right", "broken 1", "hom none"], 4),
                            (["put 1 1", "broken 6", "hom none", "right", "broken 0", "hom 0,0,0,0"], 3)):
            told = self.check("\n".join(head + rows))
            self.assertEqual(told, wrong if wrong is None else len("\n".join(head + rows[:wrong] + [""])), rows)

    def test_lines_that_are_no_deeds_or_raise(self):
        head = group_text(cyclic(4)) + "\n" + group_text(cyclic(2)) + "\nput 0 0\nbroken 0\nhom 0,0,0,0\n"
        for line in ("undo", "redo", "broken", "share", "sure", "vote 0", "votes 0", "wrong", "near", "", " ", "x", "put 4 0",
                     "put 0 2", "put -1 0", "put 00 0", "put 0  0", "put 0", "put 0 0 ", "put 0 0 0", "hom 2", "hom -", "hom 0,0",
                     "hom 00", "hom none", "hom 0,0,0,0", "right 0", "right ", "Right", "group 1", "0", "broken 0", "put 0 0\r",
                     "put 100 0", "hom 100", "put +1 0"):
            for behind in ("", "\nbroken 0\nhom 0,0,0,0", "\nx", "\n"):
                self.assertEqual(self.check(head + line + behind), len(head), repr(line))
        for line in ("put 1 0", "hom 0", "right"):
            self.assertIsNone(self.check(head + line + "\nbroken 0\nhom 0,0,0,0"))
            self.assertEqual(self.check(head + line), len(head + line))
            self.assertEqual(self.check(head + line + "\n"), len(head + line) + 1)
            self.assertEqual(self.check(head + line + "\nbroken 0"), len(head + line) + 9)

    def test_groups_of_24_and_of_25_elements(self):
        small = group_text(cyclic(2))
        for table in (cyclic(24), permutations(4), turns(12)):
            self.assertIsNone(self.check(group_text(table) + "\n" + small + "\nput 23 1\nbroken 66\nhom " + text_of([0] * 24)))
            self.assertIsNone(self.check(small + "\n" + group_text(table)))
            self.assertIsNone(self.check(group_text(table) + "\n" + group_text(table)))
        for table in (cyclic(25), words(5, 5), cyclic(26), cyclic(48), turns(24)):
            self.assertEqual(self.check(group_text(table) + "\n" + small), 0)
            self.assertEqual(self.check(small + "\n" + group_text(table)), len(small) + 1)
            self.assertEqual(self.check(group_text(table).split("\n")[0]), 0)
        for size in ("0", "49", "100", "02", "-1", "+2", "", "2 ", " 2", "\u0662", "2\r", "x"):
            self.assertEqual(self.check(f"group {size}\n0,1\n1,0\n{small}"), 0)
            self.assertEqual(self.check(f"{small}\ngroup {size}\n0,1\n1,0"), len(small) + 1)

    def test_rows_that_are_no_groups(self):
        draw = drawing(206)
        small = group_text(cyclic(2))
        for wrong in ("group 2\n0,1\n1,1", "group 2\n0,1\n0,1", "group 1\n1", "group 2\n0,1\n1,2", "group 2\n0,1\n1", "group 2\n0,1",
                      "group 3\n0,1,2\n1,0,2\n2,2,0", "group 2\n1,0\n0,0", "group 2\n0,1\n\n1,0", "group 2\n0,01\n1,0"):
            self.check(wrong)
            self.check(wrong + "\n" + small)
            self.check(small + "\n" + wrong)
            # What is wrong first is told, whatever stands behind.
            self.assertEqual(self.check(wrong + "\nx"), self.check(wrong + "\ny\nz"))
            self.check(small + "\n" + wrong + "\nput 0 0\nbroken 1")
        self.assertEqual(self.check("group 2\n0,1\n1,1\ngroup 30"), 0)
        self.assertEqual(self.check(small + "\ngroup 2\n0,1\n1,1\nx"), len(small) + 1)
        self.assertEqual(self.check(small + "\ngroup 2\n0,1\n1,1\n"), len(small) + 1)
        for table in (cyclic(5), quaternions(), even_permutations(4), shuffled(cyclic(24), draw)):
            rows = [list(row) for row in table]
            rows[draw.randrange(len(rows))][draw.randrange(len(rows))] = draw.randrange(len(rows))
            self.check(group_text(rows) + "\n" + small)
            self.check(small + "\n" + group_text(rows))

    def test_signs_put_in_left_out_or_exchanged(self):
        draw = drawing(207)
        for _ in range(12):
            text = self.drawn_text(draw, 3)
            for _ in range(60):
                place = draw.randrange(len(text) + 1)
                sign = draw.choice("0123456789,\n -+gx\u0663\r\x0b\u2028")
                self.check(text[:place] + draw.choice((sign, sign, "")) + text[place + draw.choice((0, 1, 1)):])

    def test_any_text(self):
        draw = drawing(208)
        for text in ("", "\n", " ", "x", "group", "group 1", "group 1\n", "group 1\n0", "group 1\n0\n", "group 1\n0\ngroup 1",
                     "group 1\n0\ngroup 1\n", "group 1\n0\ngroup 1\n0", "group 1\n0\ngroup 1\n0\n", "group 1\n0\n\ngroup 1\n0",
                     "\ngroup 1\n0\ngroup 1\n0", "group 1\r\n0\r\ngroup 1\r\n0", "\ud800", "\x00", "group 1\n0\ngroup 1\n0\n\ud800",
                     "group 1\n0\ngroup 1\n0\nhom -\nbroken 0\nhom 0", "group 1\n0\ngroup 1\n0\nhom -\nbroken 0\nhom -",
                     "\n" * 20000, "group 1\n0\n" * 2000, "x" * 20000):
            self.check(text)
        for _ in range(300):
            rows = draw.choices(["group 1", "0", "group 2", "0,1", "1,0", "put 0 0", "broken 0", "hom 0", "hom -", "right", ""],
                                k=draw.randrange(12))
            self.check("\n".join(["group 1", "0", "group 1", "0"][:draw.randrange(5)] + rows))

    def test_long_histories(self):
        # Any number of deeds can stand in a text.
        text = model_text(cyclic(1), cyclic(1), ["put 0 0"] * 700)
        self.assertIsNone(self.check(text))
        self.assertEqual(self.check(text + "\nput 0 1\nbroken 0\nhom 0"), len(text) + 1)
        one, other = permutations(4), turns(4)
        text = model_text(one, other, drawn_deeds(one, other, 110, drawing(209)))
        self.assertIsNone(self.check(text))
        desk = Desk(Group(one), Group(other))
        for line in text.split("\n")[len(one) + len(other) + 2::3]:
            desk.run(line)
        self.assertEqual((history_of(desk), history_end(text)), (text, desk.table))
