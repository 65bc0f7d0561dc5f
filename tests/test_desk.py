import functools
import re
import unittest
from fractions import Fraction

from sevenninths.desk import Desk, replayed_desk
from sevenninths.errors import (InvalidGroup, InvalidLine, InvalidMap, InvalidNumber, NinthError, NothingToUndo, TooMany,
                                Undefined, UnknownWord)
from sevenninths.groups import Group
from sevenninths.homs import all_homs
from sevenninths.ninths import border_map
from sevenninths.subsets import generators
from tests.helper import (NO_INTEGERS, NO_SEQUENCES, cyclic, drawing, even_permutations, neutral_of, permutations,
                          quaternions, raised, shuffled, turns, words)
from tests.test_maps import plain_broken, plain_votes

INTEGER = re.compile("0|-?[1-9][0-9]?", re.ASCII)
FORMS = {"put": "nn", "hom": "l", "right": "", "broken": "", "share": "", "sure": "", "vote": "n", "votes": "n",
         "wrong": "", "near": "", "undo": "", "redo": ""}
NO_NUMBERS = ("", "00", "01", "-0", "-00", "-01", "+1", "+0", "--1", "100", "-100", "012", "1.0", "1e1", "x", "1x", "x1",
              "1_0", "0x1", "\u0661", "\u00b2", "\u00bd", "1,2", "1,", ",", "-", "1\n", "\n", "\t1", "1\t", "1\r", "\u00a01",
              "None", "True", "9" * 30, "-" + "9" * 30)
NO_LISTS = tuple(word for word in NO_NUMBERS if word not in ("-", "1,2")) + (
    "1,,2", ",1", "1,2,", "1;2", "-,1", "1,-", "--", "-,-", "1,-0", "01,2", "1,02", "100,1", "1,100", "1,+2", "[1,2]", "(1)")


@functools.cache
def homs_of(one, other):
    return all_homs(Group(one), Group(other))


@functools.cache
def generators_of(table):
    return generators(Group(table))


def close_to(one, other, f):
    """The homomorphism that differs from f at fewer than a quarter of the places, or None."""
    return next((hom for hom in homs_of(one, other) if 4 * sum(a != b for a, b in zip(f, hom)) < len(f)), None)


def text_of(row):
    return ",".join(map(str, row)) or "-"


def fits(form, word):
    """Whether the word is an integer, or a list of such."""
    if form == "n":
        return bool(INTEGER.fullmatch(word))
    return word == "-" or all(INTEGER.fullmatch(member) for member in word.split(","))


def fault_in(line, forms):
    """The place that is told of a line's further words, or None if they are of their forms."""
    blanks = [place for place, sign in enumerate(line) if sign == " "]
    for number, blank in enumerate(blanks):
        end = blanks[number + 1] if number + 1 < len(blanks) else len(line)
        if number >= len(forms) or not fits(forms[number], line[blank + 1:end]):
            return blank + 1
    return len(line) if len(blanks) < len(forms) else None


class Model:
    """What the document tells of a desk: all deeds that were ever done, and those of them that stand."""

    def __init__(self, one, other):
        self.one, self.other = one, other
        self.first = (neutral_of(other),) * len(one)
        self.stands = []
        self.undone = []

    @property
    def table(self):
        return self.stands[-1][1] if self.stands else self.first

    def run(self, line):
        """The answer, or the name of the error with the values of its attributes."""
        word = re.match("[^ ]*", line)[0]
        if word not in FORMS:
            return "UnknownWord", word
        at = fault_in(line, FORMS[word])
        if at is not None:
            return "InvalidLine", line, at
        given = [() if w == "-" else tuple(map(int, w.split(","))) for w in line.split(" ")[1:]]
        if word in ("put", "hom", "right"):
            return self.do(word, line, given)
        if word == "undo" or word == "redo":
            source, goal = (self.stands, self.undone) if word == "undo" else (self.undone, self.stands)
            if not source:
                return "NothingToUndo", word
            goal.append(source.pop())
            return text_of(self.table)
        return self.ask(word, given)

    def do(self, word, line, given):
        f = self.table
        if word == "put":
            (x,), (value,) = given
            for number, size in ((x, len(self.one)), (value, len(self.other))):
                if not 0 <= number < size:
                    return "InvalidNumber", number
            f = f[:x] + (value,) + f[x + 1:]
        elif word == "hom":
            chosen = generators_of(self.one)
            if len(given[0]) != len(chosen) or not all(0 <= value < len(self.other) for value in given[0]):
                return "InvalidMap", given[0]
            f = next((hom for hom in homs_of(self.one, self.other) if tuple(hom[x] for x in chosen) == given[0]), None)
        else:
            f = close_to(self.one, self.other, f)
        if f is None:
            return "Undefined", "hom"
        self.stands.append((line, f))
        self.undone.clear()
        return text_of(f)

    def ask(self, word, given):
        one, other, f = self.one, self.other, self.table
        n = len(one)
        if word in ("vote", "votes"):
            x = given[0][0]
            if not 0 <= x < n:
                return "InvalidNumber", x
            row = plain_votes(one, other, f, x)
            return text_of(row) if word == "votes" else str(row.index(max(row)))
        if word == "wrong":
            hom = close_to(one, other, f)
            return ("Undefined", "hom") if hom is None else text_of([x for x in range(n) if f[x] != hom[x]])
        if word == "near":
            if len(other) ** len(generators_of(one)) > 20000:
                return "TooMany", "rows"
            alike = [sum(a == b for a, b in zip(f, hom)) for hom in homs_of(one, other)]
            return f"{max(alike)} {alike.count(max(alike))}"
        count = plain_broken(one, other, f)
        if word == "share":
            return str(Fraction(count, n * n))
        return str(count) if word == "broken" else "yes" if 9 * count < 2 * n * n else "no"


def told_by(desk, line):
    """The answer of a desk, or the name of the error with the values of its attributes."""
    try:
        return desk.run(line)
    except NinthError as error:
        return type(error).__name__, *vars(error).values()


def pairs_of_tables():
    draw = drawing(191)
    return [(cyclic(12), cyclic(4)), (permutations(3), permutations(3)), (quaternions(), words(2, 2)), (cyclic(1), cyclic(3)),
            (cyclic(5), cyclic(1)), (cyclic(1), cyclic(1)), (shuffled(turns(4), draw), shuffled(quaternions(), draw)),
            (words(2, 2, 2), words(2, 2)), (even_permutations(4), cyclic(3)), (permutations(4), turns(4)),
            (shuffled(cyclic(9), draw), shuffled(cyclic(3), draw)), (turns(12), cyclic(24))]


def drawn_line(one, other, draw):
    """Lines of all words, most of them right."""
    word = draw.choice(["put"] * 8 + ["hom", "hom", "right"] + ["undo"] * 5 + ["redo"] * 5 + sorted(FORMS) + ["deed", ""])
    if draw.random() < 0.06:
        return word + draw.choice((" ", "  ", " 1", " -", " x", " 0 0 0", " 100", " 0 ", "x", "\n"))
    given = {"put": f"{draw.randrange(len(one))} {draw.randrange(-1, len(other) + 1)}",
             "vote": str(draw.randrange(-1, len(one) + 1)), "votes": str(draw.randrange(-1, len(one) + 1))}
    if word == "hom":
        hom = draw.choice(homs_of(one, other))
        row = [hom[x] for x in generators_of(one)]
        if row and draw.random() < 0.3:
            row[draw.randrange(len(row))] = draw.randrange(-1, len(other) + 1)
        return f"hom {text_of(row)}"
    return f"{word} {given[word]}" if word in given else word


class LinesTest(unittest.TestCase):
    def test_long_rows_of_lines(self):
        draw = drawing(192)
        met = set()
        for one, other in pairs_of_tables():
            first, second = Group(one), Group(other)
            for _ in range(4):
                desk, model, lines = Desk(one=first, other=second), Model(one, other), []
                for _ in range(100):
                    line = drawn_line(one, other, draw)
                    told = model.run(line)
                    self.assertEqual(told_by(desk, line), told, line)
                    self.assertEqual((desk.table, desk.lines), (model.table, tuple(line for line, _ in model.stands)))
                    self.assertEqual((type(desk.table), type(desk.lines)), (tuple, tuple))
                    met.add((line.split(" ")[0], isinstance(told, tuple) and told[0]))
                    if not isinstance(told, tuple):
                        lines.append(line)
                self.assertTrue(desk.one is first and desk.other is second)
                again = replayed_desk(first, second, lines)
                self.assertEqual((again.table, again.lines), (desk.table, desk.lines))
        self.assertLessEqual({(word, False) for word in FORMS}, met)
        self.assertLessEqual({("put", "InvalidNumber"), ("put", "InvalidLine"), ("hom", "InvalidMap"), ("right", "Undefined"),
                              ("hom", "Undefined"), ("undo", "NothingToUndo"), ("redo", "NothingToUndo"), ("", "UnknownWord"),
                              ("wrong", "Undefined"), ("deed", "UnknownWord"), ("votes", "InvalidNumber")}, met)

    def test_at_first(self):
        for one, other in pairs_of_tables():
            desk = Desk(Group(one), Group(other))
            self.assertEqual((desk.table, desk.lines), ((neutral_of(other),) * len(one), ()))
            self.assertEqual([desk.run(word) for word in ("broken", "share", "sure", "wrong")], ["0", "0", "yes", "-"])
            self.assertEqual(desk.run("right"), text_of(desk.table))

    def test_shown_ones(self):
        desk = Desk(Group(cyclic(12)), Group(cyclic(4)))
        for line, told in (("put 6 1", "0,0,0,0,0,0,1,0,0,0,0,0"), ("hom 1", "0,1,2,3,0,1,2,3,0,1,2,3"),
                           ("put 6 3", "0,1,2,3,0,1,3,3,0,1,2,3"), ("broken", "31"), ("share", "31/144"), ("sure", "yes"),
                           ("vote 6", "2"), ("votes 6", "0,1,10,1"), ("wrong", "6"), ("near", "11 1"),
                           ("right", "0,1,2,3,0,1,2,3,0,1,2,3"), ("wrong", "-"), ("near", "12 1"),
                           ("undo", "0,1,2,3,0,1,3,3,0,1,2,3"), ("undo", "0,1,2,3,0,1,2,3,0,1,2,3"),
                           ("redo", "0,1,2,3,0,1,3,3,0,1,2,3"), ("put 0 1", "1,1,2,3,0,1,3,3,0,1,2,3")):
            self.assertEqual(desk.run(line=line), told)
        self.assertEqual(desk.lines, ("put 6 1", "hom 1", "put 6 3", "put 0 1"))
        self.assertEqual(desk.table, (1, 1, 2, 3, 0, 1, 3, 3, 0, 1, 2, 3))
        self.assertEqual(raised(NothingToUndo, desk.run, "redo").word, "redo")

    def test_questions_at_the_border(self):
        one, other, f = border_map(2)
        desk = Desk(one, other)
        for x, value in enumerate(f):
            desk.run(f"put {x} {value}")
        self.assertEqual([desk.run(word) for word in ("broken", "share", "sure")], ["162", "2/9", "no"])
        self.assertEqual(desk.run("near"), "3 9")
        for word in ("right", "wrong"):
            self.assertEqual(raised(Undefined, desk.run, word).what, "hom")
        self.assertEqual((desk.table, len(desk.lines)), (f, 27))

    def test_one_element(self):
        desk = Desk(Group(cyclic(1)), Group(cyclic(3)))
        for line, told in (("hom -", "0"), ("put 0 2", "2"), ("broken", "1"), ("share", "1"), ("votes 0", "1,0,0"),
                           ("near", "0 1"), ("hom -", "0"), ("near", "1 1"), ("wrong", "-"), ("undo", "2")):
            self.assertEqual(desk.run(line), told)
        self.assertEqual(raised(InvalidMap, desk.run, "hom 0").value, (0,))
        self.assertEqual(raised(Undefined, desk.run, "right").what, "hom")

    def test_rows_that_are_too_many(self):
        desk = Desk(Group(words(2, 2, 2)), Group(cyclic(24)))
        self.assertEqual(desk.run("near"), "8 1")
        desk = Desk(Group(words(2, 2, 2, 2)), Group(cyclic(24)))
        for _ in range(2):
            self.assertEqual(raised(TooMany, desk.run, "near").what, "rows")
        self.assertEqual((desk.run("hom 12,0,0,12"), desk.run("wrong")),
                         ("0,12,0,12,0,12,0,12,12,0,12,0,12,0,12,0", "-"))


class FormsTest(unittest.TestCase):
    def check(self, line, at):
        for _ in range(2):
            error = raised(InvalidLine, self.desk.run, line)
            self.assertIs(error.line, line)
            self.assertEqual(error.at, at)
        self.assertEqual(fault_in(line, FORMS[line.split(" ")[0]]), at)
        self.assertEqual((self.desk.table, self.desk.lines), self.before)

    def setUp(self):
        self.desk = Desk(Group(words(2, 4)), Group(cyclic(4)))
        self.desk.run("put 3 1")
        self.before = (self.desk.table, self.desk.lines)

    def test_words_that_are_lacking_or_too_many(self):
        for word, forms in FORMS.items():
            right = ["0"] * len(forms)
            for count in range(5):
                line = " ".join([word] + ["0"] * count)
                if count < len(forms):
                    self.check(line, len(line))
                elif count > len(forms):
                    self.check(line, len(" ".join([word] + right)) + 1)
            for more in ("", " ", "  ", "x", "0 0", "-", "00", "\n", "\t"):
                self.check(" ".join([word] + right + [more]), len(" ".join([word] + right)) + 1)

    def test_words_of_no_form(self):
        for word, forms in FORMS.items():
            for place, form in enumerate(forms):
                for wrong in NO_NUMBERS if form == "n" else NO_LISTS:
                    ahead = " ".join([word] + ["12"] * place)
                    for behind in ((), ("0",), ("x",), ("", "")):
                        self.check(" ".join([ahead, wrong, *behind]), len(ahead) + 1)

    def test_blanks(self):
        for line, at in (("put  0 0", 4), ("put 0  0", 6), ("put 0 0 ", 8), ("put ", 4), ("put  ", 4), ("put 0 ", 6),
                         ("put", 3), ("put 0", 5), ("put x", 4), ("put 0 x 0", 6), ("put 0 0 0 0", 8), ("hom ", 4), ("hom", 3),
                         ("hom 0, 0", 4), ("hom 0,0 ", 8), ("hom 0,0 0", 8), ("hom  0,0", 4), ("right ", 6), ("near  ", 5),
                         ("undo x", 5), ("redo 1", 5), ("undo ", 5), ("vote", 4), ("votes", 5), ("votes 1 2", 8), ("put 1,2 0", 4)):
            self.check(line, at)

    def test_integers_that_are_of_their_form(self):
        for number in (-99, -10, -1, 8, 9, 10, 99):
            for line in (f"put {number} 0", f"put {number} {number}", f"vote {number}", f"votes {number}"):
                self.assertEqual(raised(InvalidNumber, self.desk.run, line).value, number)
        for number in (-99, -1, 4, 99):
            self.assertEqual(raised(InvalidNumber, self.desk.run, f"put 7 {number}").value, number)
            self.assertEqual(raised(InvalidMap, self.desk.run, f"hom 0,{number}").value, (0, number))
        for line, told in (("hom -", ()), ("hom 0", (0,)), ("hom 0,0,0", (0, 0, 0)), ("hom -1", (-1,))):
            for _ in range(2):
                self.assertEqual(raised(InvalidMap, self.desk.run, line).value, told)
        # 1 has the order 4 and 4 the order 2, so at 4 only the values 0 and 2 are those of a homomorphism.
        self.assertEqual(generators_of(self.desk.one.table), (1, 4))
        self.assertEqual(raised(Undefined, self.desk.run, "hom 1,1").what, "hom")
        self.assertEqual((self.desk.table, self.desk.lines), self.before)
        self.assertEqual(self.desk.run("hom 1,2"), "0,1,2,3,2,3,0,1")

    def test_unknown_words(self):
        for line, word in (("", ""), (" ", ""), (" put 0 0", ""), ("  ", ""), ("Put 0 0", "Put"), ("puts 0 0", "puts"),
                           ("pu", "pu"), ("put\t0 0", "put\t0"), ("put,0,0", "put,0,0"), ("broken\n", "broken\n"), ("0", "0"),
                           ("-", "-"), ("undo\u00a0", "undo\u00a0"), ("x  y", "x"), ("\nput 0 0", "\nput"), ("PUT", "PUT"),
                           ("group 1", "group"), ("table", "table"), ("x" * 500, "x" * 500), ("hom\n0,0", "hom\n0,0")):
            for _ in range(2):
                self.assertEqual(raised(UnknownWord, self.desk.run, line).word, word)
        self.assertEqual((self.desk.table, self.desk.lines), self.before)

    def test_errors_in_their_order(self):
        # A word that is of no form is told ahead of numbers and lists that are refused.
        for line, at in (("put 99 x", 7), ("put 99 0 0", 9), ("hom 9 9", 6), ("vote 99 ", 8), ("put 99", 6), ("undo 0", 5)):
            self.check(line, at)
        for line, value in (("put 8 9", 8), ("put -1 -2", -1), ("put 0 9", 9)):
            self.assertEqual(raised(InvalidNumber, self.desk.run, line).value, value)


class UndoTest(unittest.TestCase):
    def setUp(self):
        self.desk = Desk(Group(cyclic(4)), Group(cyclic(4)))

    def run_all(self, *rows):
        for line, told in rows:
            if told is None:
                self.assertEqual(raised(NothingToUndo, self.desk.run, line).word, line)
            else:
                self.assertEqual(self.desk.run(line), told)

    def test_back_and_again(self):
        self.run_all(("undo", None), ("redo", None), ("put 1 1", "0,1,0,0"), ("put 2 2", "0,1,2,0"), ("redo", None),
                     ("undo", "0,1,0,0"), ("undo", "0,0,0,0"), ("undo", None), ("redo", "0,1,0,0"), ("undo", "0,0,0,0"),
                     ("redo", "0,1,0,0"), ("redo", "0,1,2,0"), ("redo", None), ("undo", "0,1,0,0"))
        self.assertEqual(self.desk.lines, ("put 1 1",))

    def test_a_new_deed_ends_redo(self):
        for deed, told in (("put 3 3", "0,1,0,3"), ("hom 1", "0,1,2,3"), ("put 1 1", "0,1,0,0")):
            self.setUp()
            self.run_all(("put 1 1", "0,1,0,0"), ("put 2 2", "0,1,2,0"), ("undo", "0,1,0,0"), (deed, told), ("redo", None),
                         ("undo", "0,1,0,0"), ("redo", told), ("redo", None))
            self.assertEqual(self.desk.lines, ("put 1 1", deed))

    def test_right_ends_redo(self):
        self.run_all(("hom 1", "0,1,2,3"), ("hom 2", "0,2,0,2"), ("undo", "0,1,2,3"), ("right", "0,1,2,3"), ("redo", None))
        self.assertEqual(self.desk.lines, ("hom 1", "right"))

    def test_lines_between_change_nothing(self):
        self.run_all(("put 1 1", "0,1,0,0"), ("put 2 2", "0,1,2,0"), ("undo", "0,1,0,0"))
        for line in ("broken", "share", "sure", "vote 1", "votes 1", "near"):
            self.desk.run(line)
        for line, kind in (("put 4 0", InvalidNumber), ("put 0 4", InvalidNumber), ("hom 4", InvalidMap), ("right", Undefined),
                           ("hom -", InvalidMap), ("put 0", InvalidLine), ("x", UnknownWord), ("wrong", Undefined),
                           ("undo 1", InvalidLine), ("vote 4", InvalidNumber), ("", UnknownWord), ("redo ", InvalidLine)):
            raised(kind, self.desk.run, line)
            self.assertEqual((self.desk.table, self.desk.lines), ((0, 1, 0, 0), ("put 1 1",)))
        self.run_all(("redo", "0,1,2,0"), ("redo", None), ("undo", "0,1,0,0"), ("undo", "0,0,0,0"), ("undo", None),
                     ("redo", "0,1,0,0"), ("redo", "0,1,2,0"))

    def test_deeds_that_leave_the_table_as_it_was(self):
        self.run_all(("put 0 0", "0,0,0,0"), ("hom 0", "0,0,0,0"), ("right", "0,0,0,0"), ("put 1 1", "0,1,0,0"))
        self.assertEqual(self.desk.lines, ("put 0 0", "hom 0", "right", "put 1 1"))
        self.run_all(("undo", "0,0,0,0"), ("undo", "0,0,0,0"), ("undo", "0,0,0,0"), ("undo", "0,0,0,0"), ("undo", None))
        self.run_all(("redo", "0,0,0,0"), ("put 0 0", "0,0,0,0"), ("redo", None))
        self.assertEqual(self.desk.lines, ("put 0 0", "put 0 0"))

    def test_all_of_a_long_row(self):
        draw = drawing(193)
        rows = []
        for k in range(60):
            x, value = draw.randrange(4), draw.randrange(4)
            rows.append((f"put {x} {value}", self.desk.run(f"put {x} {value}")))
        maps = ["0,0,0,0"] + [told for _, told in rows]
        self.run_all(*[("undo", told) for told in maps[-2::-1]], ("undo", None), *[("redo", told) for told in maps[1:]],
                     ("redo", None))
        self.assertEqual(self.desk.lines, tuple(line for line, _ in rows))


class ReplayedTest(unittest.TestCase):
    def test_lines_of_any_kind(self):
        one, other = Group(cyclic(12)), Group(cyclic(4))
        lines = ["hom 1", "put 6 3", "votes 6", "undo", "redo", "near", "put 0 1", "undo", "right", "undo", "undo", "broken"]
        for given in (lines, tuple(lines)):
            desk = replayed_desk(one=one, other=other, lines=given)
            self.assertIs(type(desk), Desk)
            self.assertTrue(desk.one is one and desk.other is other)
            self.assertEqual((desk.lines, desk.table), (("hom 1",), (0, 1, 2, 3) * 3))
            # What was undone can be done again.
            self.assertEqual((desk.run("redo"), desk.run("redo")), ("0,1,2,3,0,1,3,3,0,1,2,3", "0,1,2,3,0,1,2,3,0,1,2,3"))
        self.assertEqual(lines[-1], "broken")
        for nothing in ((), []):
            self.assertEqual((replayed_desk(one, other, nothing).lines, replayed_desk(one, other, nothing).table), ((), (0,) * 12))

    def test_lines_that_are_refused(self):
        one, other = Group(cyclic(4)), Group(cyclic(4))
        for line, kind, told in (("x", UnknownWord, ("x",)), ("", UnknownWord, ("",)), ("put 0", InvalidLine, ("put 0", 5)),
                                 ("put 9 9", InvalidNumber, (9,)), ("hom 1,2", InvalidMap, ((1, 2),)),
                                 ("redo", NothingToUndo, ("redo",)), ("put 1 2\n", InvalidLine, ("put 1 2\n", 6))):
            for ahead in ([], ["put 1 1"], ["put 1 1", "undo", "put 2 2", "near"]):
                for behind in ([], ["put 1 1"], ["y"]):
                    error = raised(kind, replayed_desk, one, other, ahead + [line] + behind)
                    self.assertEqual(tuple(vars(error).values()), told)
        self.assertEqual(raised(NothingToUndo, replayed_desk, one, other, ("put 0 0", "undo", "undo")).word, "undo")
        self.assertEqual(raised(Undefined, replayed_desk, one, other, ("put 1 1", "right")).what, "hom")

    def test_no_groups(self):
        four = Group(cyclic(4))
        for value in NO_INTEGERS + NO_SEQUENCES + (cyclic(4), [[0]], ((0,),), Group, Desk(four, four)):
            for call, more in ((Desk, ()), (replayed_desk, ((),)), (replayed_desk, (["x"],))):
                for other, part in ((four, 0), (value, 0)):
                    error = raised(InvalidGroup, call, value, other, *more)
                    self.assertEqual((error.part, error.place), ("desk", part))
                error = raised(InvalidGroup, call, four, value, *more)
                self.assertEqual((error.part, error.place), ("desk", 1))

    def test_two_side_by_side(self):
        four = Group(cyclic(4))
        first, second = Desk(four, four), Desk(four, four)
        first.run("put 1 1")
        self.assertEqual((second.table, second.lines), ((0,) * 4, ()))
        self.assertEqual(raised(NothingToUndo, second.run, "undo").word, "undo")
        table, lines = first.table, first.lines
        first.run("put 2 2")
        self.assertEqual((table, lines), ((0, 1, 0, 0), ("put 1 1",)))
