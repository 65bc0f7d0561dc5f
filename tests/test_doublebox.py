import unittest

from sevenninths.doublebox import DoubleBox, factor_of, product_votes
from sevenninths.errors import InvalidNumber, InvalidSamples, InvalidTable
from sevenninths.shares import Share
from tests.helper import NO_INTEGERS, NO_SEQUENCES, drawing, raised
from tests.test_tables import FIGURES, NO_PRIMES, PRIMES


class Watched(DoubleBox):
    """A DoubleBox that keeps what it is asked."""

    def __init__(self, p, f):
        DoubleBox.__init__(self, p, f)
        self.asked = []

    def ask(self, x, y):
        self.asked.append((x, y))
        return DoubleBox.ask(self, x, y)


def product_table(p, c):
    return tuple(tuple(c * x * y % p for y in range(p)) for x in range(p))


def turned(p, f, count, draw):
    """The table with other numbers at just so many places."""
    rows = [list(row) for row in f]
    for place in draw.sample(range(p * p), count):
        x, y = divmod(place, p)
        rows[x][y] = (rows[x][y] + draw.randrange(1, p)) % p
    return tuple(tuple(row) for row in rows)


def drawn_tables(p, draw, count):
    """Tables that have c x y, with no, few and many places turned, and any tables at all."""
    found = [product_table(p, 0), product_table(p, 1), product_table(p, p - 1)]
    for _ in range(count):
        f = product_table(p, draw.randrange(p))
        found += [turned(p, f, w, draw) for w in (1, min(3, p), p * p // 4, p * p // 2, draw.randrange(p * p + 1), p * p)]
    return found


def plain_unlike(p, f, c):
    return sum(f[x][y] != c * x * y % p for x in range(p) for y in range(p))


def vote_of(p, f, x, y, r, s):
    return (f[(x + r) % p][(y + s) % p] - f[r][(y + s) % p] - f[(x + r) % p][s] + f[r][s]) % p


def plain_votes(p, f, x, y):
    told = [vote_of(p, f, x, y, r, s) for r in range(p) for s in range(p)]
    return tuple(told.count(v) for v in range(p))


def no_tables(p):
    """Values that are no tuple of p tuples of p numbers below p."""
    f = product_table(p, 1)
    found = [list(f), tuple(list(row) for row in f), f[1:], f + f[:1], f[:-1] + (f[-1][1:],), f[:-1] + (f[-1] + (0,),),
             f[:-1] + (list(f[-1]),), tuple(row[1:] for row in f), (f,), f[0], (0,) * (p * p), (), ((),) * p, (f[0],), [[0]],
             ((0,),), f[:-1] + (None,), ("0" * p,) * p, f[1:] + ({0: 0},), {x: row for x, row in enumerate(f)}]
    for value in NO_INTEGERS + (-1, p, p + 1, FIGURES, Share(0, 1), Share(1, 1)):
        found += [((value,) + f[0][1:],) + f[1:], f[:-1] + (f[-1][:-1] + (value,),), f[:-1] + (value,), (value,) + f[1:]]
    return found + list(NO_SEQUENCES) + list(NO_INTEGERS)


NO_PLACES = NO_INTEGERS + (-1, FIGURES, -FIGURES, Share(0, 1))


class FactorTest(unittest.TestCase):
    def test_a_plain_count(self):
        draw = drawing(161)
        ties = 0
        for p in PRIMES:
            for f in drawn_tables(p, draw, 4):
                unlike = [plain_unlike(p, f, c) for c in range(p)]
                told = (unlike.index(min(unlike)), min(unlike))
                ties += unlike.count(min(unlike)) > 1
                for _ in range(2):
                    self.assertEqual(factor_of(p=p, f=f), told)
                self.assertIs(type(factor_of(p, f)), tuple)
        self.assertGreater(ties, 5)

    def test_equally_few_unlike_places(self):
        # 1 x y and 2 x y are alike at the places with a 0; elsewhere each is right at two places of four.
        self.assertEqual(factor_of(3, ((0, 0, 0), (0, 1, 1), (0, 2, 2))), (1, 2))
        self.assertEqual(factor_of(3, ((0, 0, 0), (0, 2, 2), (0, 1, 1))), (1, 2))
        self.assertEqual(factor_of(2, ((1, 1), (1, 0))), (0, 3))
        self.assertEqual(factor_of(2, ((1, 1), (1, 1))), (1, 3))
        self.assertEqual(factor_of(5, ((1,) * 5,) + ((1, 0, 0, 0, 0),) * 4), (0, 9))
        for p in PRIMES:
            for c in range(p):
                self.assertEqual(factor_of(p, product_table(p, c)), (c, 0))


class VotesTest(unittest.TestCase):
    def test_a_plain_count(self):
        draw = drawing(162)
        for p in PRIMES:
            for f in drawn_tables(p, draw, 2):
                for x, y in ((0, 0), (p - 1, p - 1), (draw.randrange(p), draw.randrange(p))):
                    told = plain_votes(p, f, x, y)
                    for _ in range(2):
                        self.assertEqual(product_votes(p=p, f=f, x=x, y=y), told)
                    self.assertIs(type(product_votes(p, f, x, y)), tuple)

    def test_how_many_are_right(self):
        draw = drawing(163)
        for p in PRIMES:
            for w in range(p * p // 4 + 1) if p < 8 else (0, 1, p, p * p // 4):
                c = draw.randrange(p)
                f = turned(p, product_table(p, c), w, draw)
                for _ in range(3):
                    x, y = draw.randrange(p), draw.randrange(p)
                    self.assertGreaterEqual(product_votes(p, f, x, y)[c * x * y % p], p * p - 4 * w)

    def test_shown_ones(self):
        f = ((0, 0, 0), (0, 1, 2), (0, 2, 2))
        self.assertEqual(product_votes(3, f, 1, 1), (2, 5, 2))
        self.assertEqual(product_votes(3, f, 1, 2), (2, 2, 5))
        self.assertEqual(product_votes(3, f, 0, 2), (9, 0, 0))
        self.assertEqual(product_votes(2, ((0, 0), (0, 1)), 1, 1), (0, 4))


class DoubleBoxTest(unittest.TestCase):
    def test_asks(self):
        draw = drawing(164)
        for p in PRIMES:
            f = turned(p, product_table(p, 2 % p), p, draw)
            box = DoubleBox(p=p, f=f)
            self.assertEqual(box.asks, 0)
            for asked in range(1, 30):
                x, y = draw.randrange(p), draw.randrange(p)
                self.assertEqual(box.ask(x=x, y=y), f[x][y])
                self.assertEqual(box.asks, asked)

    def test_refused_asks_count_as_none(self):
        for p in PRIMES:
            box = DoubleBox(p, product_table(p, 1))
            box.ask(1, 1)
            for x in NO_PLACES + (p, p + 1, -p):
                for y in (0, p, None, -1):
                    self.assertIs(raised(InvalidNumber, box.ask, x, y).value, x)
                self.assertIs(raised(InvalidNumber, box.ask, p - 1, x).value, x)
            self.assertEqual((box.asks, box.ask(p - 1, p - 1), box.asks), (1, 1, 2))

    def test_two_boxes_count_for_themselves(self):
        f = product_table(3, 1)
        first, second = DoubleBox(3, f), DoubleBox(3, f)
        first.ask(1, 2)
        second.corrected(1, 2, ((0, 0),))
        self.assertEqual((first.asks, second.asks), (1, 4))

    def test_corrected(self):
        draw = drawing(165)
        met = set()
        for p in PRIMES:
            for f in drawn_tables(p, draw, 2):
                box = Watched(p, f)
                for count in (1, 3, 3, 5, 9, 49):
                    x, y = draw.randrange(p), draw.randrange(p)
                    samples = tuple((draw.randrange(p), draw.randrange(p)) for _ in range(count))
                    told = [vote_of(p, f, x, y, r, s) for r, s in samples]
                    most = [v for v in range(p) if 2 * told.count(v) > count]
                    before, box.asked = box.asks, []
                    answer = box.corrected(x=x, y=y, samples=samples)
                    self.assertEqual(answer, most[0] if most else None)
                    self.assertEqual(box.asked, [place for r, s in samples for place in (
                        ((x + r) % p, (y + s) % p), (r, (y + s) % p), ((x + r) % p, s), (r, s))])
                    self.assertEqual(box.asks, before + 4 * count)
                    self.assertEqual(DoubleBox.corrected(DoubleBox(p, f), x, y, samples), answer)
                    met.add(answer is None)
        self.assertEqual(met, {True, False})

    def test_all_pairs_vote_as_product_votes_tells(self):
        f = turned(5, product_table(5, 3), 6, drawing(166))
        box = DoubleBox(5, f)
        for x in range(5):
            for y in range(5):
                told = [box.corrected(x, y, ((r, s),)) for r in range(5) for s in range(5)]
                self.assertEqual(tuple(told.count(v) for v in range(5)), product_votes(5, f, x, y))
        self.assertEqual(box.asks, 4 * 5 ** 4)

    def test_with_and_without_a_majority(self):
        box = DoubleBox(3, ((0, 0, 0), (0, 1, 2), (0, 2, 2)))
        self.assertEqual([box.corrected(1, 1, ((r, s),)) for r in range(3) for s in range(3)], [1, 1, 1, 1, 2, 0, 1, 0, 2])
        self.assertEqual(box.corrected(1, 1, ((0, 0), (1, 1), (0, 1))), 1)
        self.assertEqual(box.corrected(1, 1, ((1, 1), (0, 1), (2, 2))), 2)
        self.assertEqual(box.corrected(1, 1, ((1, 2), (1, 2), (2, 2))), 0)
        self.assertIsNone(box.corrected(1, 1, ((0, 0), (1, 1), (1, 2))))
        self.assertIsNone(box.corrected(1, 1, ((0, 0), (0, 0), (1, 1), (1, 1), (1, 2))))
        self.assertEqual(box.corrected(1, 1, ((0, 0),) * 25 + ((1, 1),) * 24), 1)
        self.assertEqual(box.corrected(1, 1, ((0, 0),) * 24 + ((1, 1),) * 25), 2)
        self.assertIsNone(box.corrected(1, 1, ((0, 0),) * 24 + ((1, 1),) * 24 + ((1, 2),)))

    def test_how_many_samples(self):
        box = DoubleBox(5, product_table(5, 3))
        asks = 0
        for count in range(60):
            samples = tuple((k % 5, k // 5 % 5) for k in range(count))
            if count % 2 == 1 and count <= 49:
                self.assertEqual(box.corrected(2, 4, samples), 4)
                asks += 4 * count
            else:
                self.assertIs(raised(InvalidSamples, box.corrected, 2, 4, samples).value, samples)
            self.assertEqual(box.asks, asks)

    def test_wrong_samples_ask_nothing(self):
        for p in PRIMES:
            box = Watched(p, product_table(p, 1))
            wrong = [(), [], [(0, 0)], ([0, 0],), (0, 0, 0), (0,), ((0,),), ((0, 0, 0),), ((),), ((0, 0),) * 2,
                     ((0, 0), (0, 0), [0, 0]), ((0, 0),) * 51, [(0, 0)] * 49, ((0, 0),) * 48, ((0, p),), ((p, 0),), ("00",),
                     (((0, 0),),), ((0, 0),) * 50, ((0, 0),) * 101, ({0: 0, 1: 1},), ((0, 0), 0, (0, 0)), (None,)]
            for value in NO_PLACES + (p, -p):
                wrong += [((0, value),), ((value, 0),), ((0, 0), (0, 0), (value, value)), (value,)]
            for value in wrong + list(NO_SEQUENCES) + [value for value in NO_INTEGERS]:
                for x in (0, p - 1):
                    self.assertIs(raised(InvalidSamples, box.corrected, x, 0, value).value, value)
            for x in NO_PLACES + (p, -p):
                for samples in (((0, 0),), (), None, [(0, 0)]):
                    self.assertIs(raised(InvalidNumber, box.corrected, x, x, samples).value, x)
                    self.assertIs(raised(InvalidNumber, box.corrected, 0, x, samples).value, x)
                    self.assertIs(raised(InvalidNumber, box.corrected, x, -1, samples).value, x)
            self.assertEqual((box.asks, box.asked), (0, []))
            self.assertEqual(box.corrected(1, 1, ((p - 1, p - 1),)), 1)


class WrongTest(unittest.TestCase):
    def calls(self, p, f):
        return ((factor_of, (p, f)), (product_votes, (p, f, 0, 0)), (product_votes, (p, f, None, -1)), (DoubleBox, (p, f)))

    def test_no_primes(self):
        for p in NO_PRIMES:
            for f in (((0,),), product_table(4, 1), None, [[0]]):
                for call, given in self.calls(p, f):
                    for _ in range(2):
                        self.assertIs(raised(InvalidNumber, call, *given).value, p)

    def test_no_tables(self):
        for p in PRIMES:
            for value in no_tables(p):
                for call, given in self.calls(p, value):
                    self.assertIs(raised(InvalidTable, call, *given).value, value)
            for size in (1, 2, 3, 4, 5, 7, 11, 13, 17):
                if size != p:
                    value = ((0,) * size,) * size
                    for call, given in self.calls(p, value):
                        self.assertIs(raised(InvalidTable, call, *given).value, value)

    def test_no_places(self):
        for p in PRIMES:
            f = product_table(p, 1)
            for x in NO_PLACES + (p, p + 1, -p):
                for y in (0, p, None):
                    self.assertIs(raised(InvalidNumber, product_votes, p, f, x=x, y=y).value, x)
                self.assertIs(raised(InvalidNumber, product_votes, p, f, x=p - 1, y=x).value, x)
