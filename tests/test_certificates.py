import itertools
import unittest

from sevenninths.certificates import homs_certificate, homs_certificate_holds
from sevenninths.errors import TooMany
from sevenninths.groups import Group
from sevenninths.homs import all_homs
from sevenninths.shares import Share
from sevenninths.subsets import generators
from tests.helper import (NO_INTEGERS, NO_SEQUENCES, cyclic, drawing, even_permutations, neutral_of, permutations,
                          quaternions, raised, shuffled, turns, words)
from tests.test_homs import broken_pair, larger_pairs


class Flatterer:
    """An object that says of everything that it equals it."""

    def __eq__(self, value):
        return True

    def __hash__(self):
        return 0


def product_of(table, factors):
    """The product of the factors, from the left."""
    reached = neutral_of(table)
    for x in factors:
        reached = table[reached][x]
    return reached


def is_right(one, other, chosen, row, part):
    """Whether a part is what the document tells for a row, by the tables alone."""
    kind, values, shown = part
    if values != row:
        return False
    if kind == "hom":
        fits = len(shown) == len(one) and all(shown[x] == value for x, value in zip(chosen, row))
        return fits and broken_pair(one, other, shown) is None
    short = all(len(word) <= len(one) + 1 for word in shown)
    there = all(0 <= place < len(chosen) for word in shown for place in word)
    first, second = [product_of(one, [chosen[place] for place in word]) for word in shown]
    left, right = [product_of(other, [row[place] for place in word]) for word in shown]
    return kind == "clash" and len(shown) == 2 and short and there and first == second and left != right


def kinds(value):
    """The kinds of all values in a nested tuple."""
    if isinstance(value, tuple):
        return {tuple}.union(*[kinds(part) for part in value])
    return {type(value)}


def small_pairs():
    """Pairs of groups with few rows, all together with homomorphisms and clashes in plenty."""
    return [(Group(one), Group(other)) for one, other in (
        (cyclic(4), cyclic(6)), (words(2, 2), cyclic(4)), (permutations(3), permutations(3)), (cyclic(1), cyclic(3)),
        (cyclic(3), cyclic(1)), (cyclic(2), quaternions()), (quaternions(), words(2, 2)), (cyclic(1), cyclic(1)),
        (shuffled(cyclic(5), drawing(61)), shuffled(cyclic(5), drawing(62))), (turns(4), cyclic(2)),
        (shuffled(permutations(3), drawing(63)), shuffled(turns(4), drawing(64))), (cyclic(2), cyclic(3)))]


def replaced(row, place, value):
    return row[:place] + (value,) + row[place + 1:]


def wrong_whole(certificate):
    """Certificates with a part left out, doubled or exchanged with another one, and the like."""
    found = [certificate[1:], certificate[:-1], certificate + certificate, (certificate,), list(certificate)]
    for place, part in enumerate(certificate):
        found.append(certificate[:place] + certificate[place + 1:])
        found.append(certificate[:place] + (part,) + certificate[place:])
        found.append(replaced(certificate, place, certificate[place - 1]))
        if place:
            found.append(certificate[:place - 1] + (part, certificate[place - 1]) + certificate[place + 1:])
    return [value for value in found if value != certificate or not isinstance(value, tuple)]


def lookalikes(number):
    """Values that are no integers, though some of them equal the number."""
    return [float(number), Share(number, 1), str(number), None, (number,), bool(number), Flatterer()]


def wrong_hom_parts(one, other, part):
    """What a part for a row with a homomorphism may not be, whatever certificate it stands in."""
    kind, values, f = part
    found = [("clash", values, f), ("clash", values, ((), ())), ("clash", values, ((0,), (0,)))]
    for place, value in enumerate(f):
        found += [(kind, values, replaced(f, place, h)) for h in range(-1, other.size + 1) if h != value]
        found += [(kind, values, replaced(f, place, h)) for h in lookalikes(value)]
    found += [(kind, values, g) for g in (list(f), f[1:], f + (0,), (f,), None, 0, "", values + f, f[:-1] + ([],))]
    return [wrong for wrong in found if wrong != part or kinds(wrong) != kinds(part)]


def wrong_clash_parts(one, part):
    """What a part for a row with a clash may not be."""
    kind, values, pair = part
    first, second = pair
    long = (0,) * (one.size + 2)
    found = [("hom", values, pair), ("hom", values, (0,) * one.size)]
    for words_told in ((first, first), (second, second), (first,), (first, second, ()), (first, second, first), (),
                       [first, second], (list(first), second), (first, list(second)), (long, ()), (long, long),
                       (first, None), (None, second), (0, 0), first, None, "ab", (first + (-1,), second),
                       (first, second + (10 ** 30,)), ((first,), second), {first: 1, second: 2}):
        found.append((kind, values, words_told))
    for place, letter in enumerate(first):
        found += [(kind, values, (replaced(first, place, value), second)) for value in lookalikes(letter) + [-1, 9]]
    return found


def wrong_parts(part):
    """What no part may be, made from a right one."""
    kind, values, shown = part
    found = [list(part), part[:2], part + (0,), part[1:], (values, kind, shown), (kind, shown, values), kind, None, 7,
             Flatterer(), (Flatterer(), values, shown), (kind, Flatterer(), shown), (kind, values, Flatterer())]
    found += [(other, values, shown) for other in ("Hom", "", "hom ", "clashes", None, True, 0, ("hom",), b"hom", [])]
    found += [(kind, other, shown) for other in (list(values), values + (0,), None, 0, (values,), "")]
    for place, value in enumerate(values):
        found += [(kind, replaced(values, place, other), shown) for other in lookalikes(value) + [-1, value + 1]]
    return [wrong for wrong in found if wrong != part or kinds(wrong) != kinds(part)]


class CertificateTest(unittest.TestCase):
    def test_what_is_made(self):
        met = set()
        for one, other in larger_pairs() + small_pairs():
            chosen = generators(one)
            rows = list(itertools.product(range(other.size), repeat=len(chosen)))
            certificate = homs_certificate(one, other)
            self.assertEqual(homs_certificate(one=one, other=other), certificate)
            self.assertLessEqual(kinds(certificate), {tuple, int, str})
            self.assertEqual(len(certificate), len(rows))
            for row, part in zip(rows, certificate):
                self.assertTrue(is_right(one.table, other.table, chosen, row, part), part)
                met.add(part[0])
            self.assertEqual(tuple(sorted(part[2] for part in certificate if part[0] == "hom")), all_homs(one, other))
            self.assertIs(homs_certificate_holds(one, other, certificate), True)
            self.assertIs(homs_certificate_holds(one=one, other=other, certificate=certificate), True)
        self.assertEqual(met, {"hom", "clash"})

    def test_its_homs_are_in_the_order_of_all_homs_where_the_neutral_element_is_0(self):
        for one, other in ((cyclic(12), cyclic(4)), (words(2, 2), words(2, 2)), (turns(4), cyclic(2))):
            first, second = Group(one), Group(other)
            found = tuple(part[2] for part in homs_certificate(first, second) if part[0] == "hom")
            self.assertEqual(found, all_homs(first, second))

    def test_shown_ones(self):
        self.assertEqual(homs_certificate(Group(cyclic(1)), Group(cyclic(3))), (("hom", (), (0,)),))
        self.assertTrue(homs_certificate_holds(Group(cyclic(1)), Group(cyclic(3)), (("hom", (), (0,)),)))
        for wrong in ((("hom", (), (1,)),), (("clash", (), ((), ())),), (("hom", (), ()),), (), (("hom", (0,), (0,)),)):
            self.assertIs(homs_certificate_holds(Group(cyclic(1)), Group(cyclic(3)), wrong), False)
        two = Group(cyclic(2))
        shown = (("hom", (0,), (0, 0)), ("hom", (1,), (0, 1)))
        self.assertEqual(homs_certificate(two, two), shown)
        self.assertIs(homs_certificate_holds(two, two, shown), True)

    def test_many_rows_are_shown_soon(self):
        for one, m in ((words(2, 2, 2), 27), (words(2, 2, 2, 2, 2), 7), (turns(24), 48)):
            first, second = Group(one), Group(cyclic(m))
            certificate = homs_certificate(first, second)
            self.assertEqual(len(certificate), m ** len(generators(first)))
            self.assertIs(homs_certificate_holds(first, second, certificate), True)
            self.assertIs(homs_certificate_holds(first, second, certificate[:-1] + certificate[-2:-1]), False)

    def test_rows(self):
        for one, m in ((words(2, 2, 2), 28), (words(2, 2, 2, 2), 12), (words(2, 2, 2, 2, 2), 8)):
            first, second = Group(one), Group(cyclic(m))
            for _ in range(2):
                self.assertEqual(raised(TooMany, homs_certificate, first, second).what, "rows")
            for value in NO_INTEGERS + (((0,),), (("hom", (0,), (0,)),)):
                self.assertEqual(raised(TooMany, homs_certificate_holds, first, second, value).what, "rows")


class HoldsTest(unittest.TestCase):
    def refused(self, one, other, value):
        self.assertIs(homs_certificate_holds(one, other, value), False, value)

    def test_any_value_at_all(self):
        for one, other in small_pairs():
            deep = ()
            for _ in range(5000):
                deep = (deep,)
            for value in NO_SEQUENCES + NO_INTEGERS + (deep, (deep,), "hom", ("hom",), (("hom", (), ()),), (0,) * 3):
                self.refused(one, other, value)
            count = len(homs_certificate(one, other))
            for value in (None, 0, (), "hom", ("hom",), (None, None, None), ((), (), ()), ("clash", (), ()), [], deep):
                self.refused(one, other, (value,) * count)

    def test_parts_left_out_doubled_and_exchanged(self):
        for one, other in small_pairs():
            for wrong in wrong_whole(homs_certificate(one, other)):
                self.refused(one, other, wrong)

    def test_parts_changed(self):
        for one, other in small_pairs():
            certificate = homs_certificate(one, other)
            met = set()
            for place, part in enumerate(certificate):
                wrongs = wrong_parts(part)
                if part[0] not in met or place == len(certificate) - 1:
                    wrongs += wrong_hom_parts(one, other, part) if part[0] == "hom" else wrong_clash_parts(one, part)
                met.add(part[0])
                for wrong in wrongs:
                    self.refused(one, other, replaced(certificate, place, wrong))

    def test_a_certificate_of_other_groups(self):
        pairs = small_pairs()
        for one, other in pairs:
            certificate = homs_certificate(one, other)
            for first, second in pairs:
                chosen, rows = generators(first), second.size ** len(generators(first))
                told = len(certificate) == rows and all(
                    is_right(first.table, second.table, chosen, row, part) for row, part in zip(
                        itertools.product(range(second.size), repeat=len(chosen)), certificate))
                self.assertIs(homs_certificate_holds(first, second, certificate), told)


class WordTest(unittest.TestCase):
    """Certificates whose words are chosen by hand."""

    def check(self, one, other, row, pair, told):
        first, second = Group(one), Group(other)
        certificate = homs_certificate(first, second)
        place = [part[1] for part in certificate].index(row)
        self.assertEqual(certificate[place][0], "clash")
        changed = replaced(certificate, place, ("clash", row, pair))
        self.assertIs(homs_certificate_holds(first, second, changed), told, pair)

    def test_how_long_they_may_be(self):
        for n in (2, 3, 4, 7):
            for m in (5, 9, 11):
                for short, long in (((), n), ((0,), n + 1)):
                    self.check(cyclic(n), cyclic(m), (1,), ((0,) * long, short), True)
                    self.check(cyclic(n), cyclic(m), (1,), (short, (0,) * long), True)
                for short, long in (((0, 0), n + 2), ((0,) * (n + 1), 2 * n + 1), ((), 2 * n)):
                    if long > n + 1:
                        self.check(cyclic(n), cyclic(m), (1,), ((0,) * long, short), False)
                        self.check(cyclic(n), cyclic(m), (1,), (short, (0,) * long), False)

    def test_their_products(self):
        # Products are taken from the left: 1 is (12), 2 is (01) among the permutations of three.
        six = permutations(3)
        self.assertEqual(generators(Group(six)), (1, 2))
        self.check(six, cyclic(2), (0, 1), ((0, 1, 0), (1, 0, 1)), True)
        self.check(six, cyclic(2), (0, 1), ((0, 1), (1, 0)), False)
        self.check(six, cyclic(2), (0, 1), ((0, 1), (1, 0, 1, 0)), True)
        self.check(six, cyclic(2), (0, 1), ((0, 1, 0, 1, 0, 1), (0, 0)), True)
        self.check(six, cyclic(2), (0, 1), ((0, 0), ()), False)
        self.check(six, six, (1, 3), ((0, 1, 0, 1), (1, 0)), True)
        self.check(six, six, (0, 1), ((0, 1, 0), (1, 0, 1)), True)
        self.check(six, six, (3, 1), ((0, 0), ()), True)
        # In the square's group the words 01 and 10 have unlike products, 01 and 1000 like ones.
        four = turns(4)
        self.assertEqual(generators(Group(four)), (1, 4))
        self.check(four, four, (1, 1), ((0, 1), (1, 0, 0, 0)), True)
        self.check(four, cyclic(4), (1, 0), ((0, 1), (1, 0, 0, 0)), True)
        self.check(four, cyclic(4), (1, 0), ((0, 1), (1, 0)), False)
        self.check(even_permutations(4), cyclic(2), (1, 1), ((), ()), False)

    def test_places_that_there_are(self):
        for wrong in ((2,), (-1,), (0, 2), (10 ** 29,), (True,), (False, False), (0.0, 0.0), (None,), ((),), ("0",)):
            self.check(words(2, 2), cyclic(3), (1, 0), (wrong, ()), False)
            self.check(words(2, 2), cyclic(3), (1, 0), ((), wrong), False)
        self.check(words(2, 2), cyclic(3), (1, 0), ((0, 0), ()), True)
        self.check(words(2, 2), cyclic(3), (1, 0), ((), (0, 0)), True)
        self.check(words(2, 2), cyclic(3), (1, 0), ((1, 1), ()), False)
        self.check(words(2, 2), cyclic(3), (1, 0), ((0, 1, 0), (1,)), True)

    def test_words_of_unlike_products_in_one(self):
        for one, other in ((cyclic(4), cyclic(6)), (cyclic(2), cyclic(3)), (words(2, 2), cyclic(3)),
                           (permutations(3), cyclic(2)), (quaternions(), words(2, 2))):
            chosen = generators(Group(one))
            certificate = homs_certificate(Group(one), Group(other))
            words_told = [word for count in range(4) for word in itertools.product(range(len(chosen)), repeat=count)]
            met = set()
            # A row with a homomorphism has no clash, whatever words are told.
            for place in {[part[0] for part in certificate].index("clash"), 0, len(certificate) - 1}:
                values = certificate[place][1]
                for pair in itertools.product(words_told, repeat=2):
                    part = ("clash", values, pair)
                    told = is_right(one, other, chosen, values, part)
                    changed = replaced(certificate, place, part)
                    self.assertIs(homs_certificate_holds(Group(one), Group(other), changed), told, pair)
                    met.add(told)
            self.assertIn(False, met)
        self.check(cyclic(4), cyclic(6), (1,), ((0,), ()), False)
        self.check(cyclic(4), cyclic(6), (1,), ((0,), (0, 0)), False)
