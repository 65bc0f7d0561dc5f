import unittest

from sevenninths.boxes import Box, Corrector, Tester
from sevenninths.errors import InvalidMap, InvalidNumber, InvalidSamples, InvalidTable
from sevenninths.groups import Group
from sevenninths.maps import broken, votes
from sevenninths.shares import Share
from tests.helper import (NO_INTEGERS, NO_SEQUENCES, cyclic, drawing, neutral_of, permutations, quaternions, raised,
                          shuffled, turns, words)
from tests.test_homs import no_maps
from tests.test_maps import drawn_maps


class Watched(Box):
    """A Box that keeps what it is asked."""

    def __init__(self, table):
        Box.__init__(self, table)
        self.asked = []

    def ask(self, x):
        self.asked.append(x)
        return Box.ask(self, x)


def pairs_of_groups():
    draw = drawing(101)
    return [(Group(one), Group(other)) for one, other in (
        (cyclic(12), cyclic(4)), (permutations(3), permutations(3)), (quaternions(), words(2, 2)), (cyclic(1), cyclic(3)),
        (shuffled(turns(4), draw), shuffled(quaternions(), draw)), (turns(24), permutations(4)), (cyclic(3), cyclic(1)))]


class BoxTest(unittest.TestCase):
    def test_asks(self):
        draw = drawing(102)
        for count in (1, 2, 9, 127, 128):
            row = [draw.choice((0, 1, 48, 10 ** 30 - 1, draw.randrange(10 ** 9))) for _ in range(count)]
            for given in (row, tuple(row)):
                box = Box(table=given)
                self.assertEqual((box.asks, len(box)), (0, count))
                self.assertEqual(box.table, tuple(row))
                self.assertIs(type(box.table), tuple)
                for asked, x in enumerate([0, count - 1] + draw.choices(range(count), k=20), start=1):
                    self.assertEqual(box.ask(x=x), row[x])
                    self.assertEqual((box.asks, len(box), box.table), (asked, count, tuple(row)))

    def test_a_list_that_is_changed_afterwards(self):
        row = [3, 1, 2]
        box = Box(row)
        row[0] = 9
        row.append(4)
        self.assertEqual((box.table, box.ask(0), len(box)), ((3, 1, 2), 3, 3))
        del row[:]
        self.assertEqual((box.ask(2), box.asks), (2, 2))
        row.extend([0, 0])
        two = Group(cyclic(2))
        box = Box(row)
        corrector = Corrector(two, two, box)
        row[1] = 1
        self.assertEqual(corrector.answer(1, (0,)), 0)

    def test_refused_asks_count_as_none(self):
        for count in (1, 5, 128):
            box = Box([7] * count)
            box.ask(0)
            for x in NO_INTEGERS + (-1, count, count + 1, -count, 10 ** 30, Share(0, 1)):
                for _ in range(2):
                    self.assertIs(raised(InvalidNumber, box.ask, x).value, x)
            self.assertEqual((box.asks, box.ask(count - 1), box.asks), (1, 7, 2))

    def test_no_rows(self):
        wrong = [(), [], (0,) * 129, [0] * 129, [0] * 400, (0, -1), [-1], (10 ** 30, -10 ** 30), [(0,)], ((),),
                 (Share(0, 1),), {0: 0}, Box((0,))]
        wrong += [row for value in NO_INTEGERS for row in ((value,), [value], (0, value, 1), [0] * 127 + [value])]
        for value in wrong + list(NO_SEQUENCES):
            for _ in range(2):
                self.assertIs(raised(InvalidTable, Box, value).value, value)


class CorrectorTest(unittest.TestCase):
    def test_answers(self):
        draw = drawing(103)
        met = set()
        for one, other in pairs_of_groups():
            for f in drawn_maps(one, other, draw, 4):
                box = Watched(f)
                corrector = Corrector(one=one, other=other, box=box)
                self.assertIs(corrector.box, box)
                for count in (1, 1, 3, 3, 5, 7, 49):
                    x = draw.randrange(one.size)
                    samples = tuple(draw.randrange(one.size) for _ in range(count))
                    told = [next(h for h in range(other.size) if other.table[h][f[y]] == f[one.table[x][y]])
                            for y in samples]
                    most = [h for h in told if 2 * told.count(h) > count]
                    before, box.asked = box.asks, []
                    answer = corrector.answer(x=x, samples=samples)
                    self.assertEqual(answer, most[0] if most else None)
                    self.assertEqual(box.asked, [place for y in samples for place in (one.table[x][y], y)])
                    self.assertEqual(box.asks, before + 2 * count)
                    met.add(answer is None)
        self.assertEqual(met, {True, False})

    def test_shown_ones(self):
        one, two = Group(cyclic(12)), Group(cyclic(4))
        f = (0, 1, 2, 3, 0, 1, 3, 3, 0, 1, 2, 3)
        corrector = Corrector(one, two, Box(list(f)))
        self.assertEqual(votes(one, two, f, 6), (0, 1, 10, 1))
        self.assertEqual(corrector.answer(6, (1, 2, 3)), 2)
        # At 0 the vote is f(6), at 6 the box is asked for f(0) and f(6).
        self.assertEqual([corrector.answer(6, (y,)) for y in (0, 6, 5)], [3, 1, 2])
        self.assertIsNone(corrector.answer(6, (0, 6, 5)))
        self.assertEqual(corrector.answer(6, (0, 5, 5)), 2)
        self.assertEqual(corrector.answer(6, (0, 0, 5)), 3)
        self.assertIsNone(corrector.answer(6, (0, 0, 5, 5, 6)))
        self.assertEqual(corrector.answer(6, (0, 0, 5, 5, 5)), 2)
        self.assertEqual(corrector.box.asks, 2 * (3 + 3 + 3 + 3 + 3 + 5 + 5))
        point = Corrector(Group(cyclic(1)), two, Box((3,)))
        self.assertEqual(point.answer(0, (0,) * 49), 0)

    def test_how_many_samples(self):
        one = Group(cyclic(5))
        box = Box((0, 1, 2, 3, 4))
        corrector = Corrector(one, one, box)
        asks = 0
        for count in range(60):
            samples = tuple(y % 5 for y in range(count))
            if count % 2 == 1 and count <= 49:
                self.assertEqual(corrector.answer(3, samples), 3)
                asks += 2 * count
            else:
                self.assertIs(raised(InvalidSamples, corrector.answer, 3, samples).value, samples)
            self.assertEqual(box.asks, asks)

    def test_wrong_samples_ask_nothing(self):
        for one, other in pairs_of_groups():
            box = Watched((neutral_of(other.table),) * one.size)
            corrector = Corrector(one, other, box)
            n = one.size
            wrong = [(), (0, 0), [0], [0, 0, 0], (0,) * 48, (0,) * 50, (0,) * 51, [0] * 49, (n,), (-1,), (0, 0, n),
                     (10 ** 30,), ((0,),), (0, (0,), 0), ((0, 0), (0, 0), (0, 0)), (Share(0, 1),), Box((0,))]
            wrong += [row for value in NO_INTEGERS for row in ((value,), (0, 0, value), (value,) * 49)]
            for value in wrong + list(NO_SEQUENCES):
                for x in (0, n - 1):
                    for _ in range(2):
                        self.assertIs(raised(InvalidSamples, corrector.answer, x, value).value, value)
            # A wrong place is told ahead of wrong samples.
            for x in NO_INTEGERS + (-1, n, -n, 10 ** 30, Share(0, 1)):
                for samples in ((0,), (), [0], None, (n,)):
                    self.assertIs(raised(InvalidNumber, corrector.answer, x, samples).value, x)
            self.assertEqual((box.asks, box.asked), (0, []))
            self.assertEqual(corrector.answer(0, (0,)), neutral_of(other.table))

    def test_boxes_of_no_map(self):
        self.check_boxes_of_no_map(Corrector)

    def check_boxes_of_no_map(self, kind):
        met = 0
        for one, other in pairs_of_groups():
            f = (neutral_of(other.table),) * one.size
            rows = [f + (0,), f + f, (other.size,) * one.size, f[1:] + (other.size,), f[1:] or (0, 0), (0,) * 128]
            rows += [value for value in no_maps(one, other, f) if isinstance(value, tuple) and 0 < len(value) <= 128 and
                     all(type(x) is int and x >= 0 for x in value)]
            for row in rows:
                for given in (row, list(row)):
                    box = Box(given)
                    self.assertIs(raised(InvalidMap, kind, one, other, box).value, box.table)
                    self.assertEqual(box.asks, 0)
                    met += 1
        self.assertGreater(met, 100)


class TesterTest(unittest.TestCase):
    def test_pairs(self):
        draw = drawing(104)
        met = set()
        for one, other in pairs_of_groups():
            for f in drawn_maps(one, other, draw, 4):
                box = Watched(list(f))
                tester = Tester(one=one, other=other, box=box)
                self.assertIs(tester.box, box)
                for count in (0, 1, 1, 2, 10, 100):
                    pairs = tuple((draw.randrange(one.size), draw.randrange(one.size)) for _ in range(count))
                    before, box.asked = box.asks, []
                    told = sum(other.table[f[x]][f[y]] != f[one.table[x][y]] for x, y in pairs)
                    self.assertEqual(tester.test(pairs=pairs), told)
                    self.assertEqual(box.asked, [place for x, y in pairs for place in (x, y, one.table[x][y])])
                    self.assertEqual(box.asks, before + 3 * count)
                    met.add(told)
        self.assertLessEqual({0, 1, 2}, met)

    def test_all_pairs(self):
        draw = drawing(105)
        for one, other in pairs_of_groups():
            for f in drawn_maps(one, other, draw, 2):
                tester = Tester(one, other, Box(f))
                pairs = [(x, y) for x in range(one.size) for y in range(one.size)]
                total = sum(tester.test(tuple(pairs[k:k + 100])) for k in range(0, len(pairs), 100))
                self.assertEqual(total, broken(one, other, f))
                self.assertEqual(tester.box.asks, 3 * len(pairs))

    def test_wrong_pairs_ask_nothing(self):
        for one, other in pairs_of_groups():
            box = Watched((neutral_of(other.table),) * one.size)
            tester = Tester(one, other, box)
            n = one.size
            wrong = [[], [(0, 0)], ([0, 0],), ((0, 0), [0, 0]), ((0,),), ((),), ((0, 0, 0),), (0,), (0, 0), ((0, n),),
                     ((n, 0),), ((-1, 0),), ((0, 0), (0, -1)), ((0, 0),) * 101, [(0, 0)] * 100, (((0, 0),),), ("00",),
                     ((0, 0),) * 99 + ((0, n),), ((0, 0),) * 400, ({0: 0, 1: 0},), (Share(0, 1),), ((0, 10 ** 30),)]
            wrong += [row for value in NO_INTEGERS for row in (((0, value),), ((0, 0), (value, 0)), (value,))]
            for value in wrong + list(NO_SEQUENCES):
                for _ in range(2):
                    self.assertIs(raised(InvalidSamples, tester.test, value).value, value)
            self.assertEqual((box.asks, box.asked), (0, []))
            self.assertEqual((tester.test(()), box.asks), (0, 0))
            self.assertEqual(tester.test(((0, 0),) * 100), 0 if neutral_of(other.table) == box.table[0] else 100)
            self.assertEqual(box.asks, 300)

    def test_boxes_of_no_map(self):
        CorrectorTest.check_boxes_of_no_map(self, Tester)


class SharedBoxTest(unittest.TestCase):
    def test_each_ask_counts(self):
        draw = drawing(106)
        one, two = Group(cyclic(12)), Group(cyclic(4))
        f = (0, 1, 2, 3, 0, 1, 3, 3, 0, 1, 2, 3)
        box = Box(f)
        users = [Corrector(one, two, box), Corrector(one, two, box), Corrector(one, Group(words(2, 2)), box),
                 Tester(one, two, box), Tester(one, Group(cyclic(48)), box)]
        asks = 0
        for _ in range(200):
            user = draw.choice(users + [box])
            if user is box:
                x = draw.randrange(12)
                self.assertEqual(box.ask(x), f[x])
                asks += 1
            elif isinstance(user, Corrector):
                samples = tuple(draw.randrange(12) for _ in range(draw.choice((1, 3, 5))))
                x = draw.randrange(12)
                first = user.answer(x, samples)
                asks += 2 * len(samples)
                self.assertEqual(box.asks, asks)
                self.assertEqual(user.answer(x, samples), first)
                asks += 2 * len(samples)
            else:
                pairs = tuple((draw.randrange(12), draw.randrange(12)) for _ in range(draw.randrange(4)))
                user.test(pairs)
                asks += 3 * len(pairs)
            self.assertEqual(box.asks, asks)
            self.assertEqual((box.table, len(box)), (f, 12))
        self.assertTrue(all(user.box is box for user in users))

    def test_two_boxes_count_for_themselves(self):
        first, second = Box((0, 1)), Box((0, 1))
        first.ask(1)
        self.assertEqual((first.asks, second.asks), (1, 0))
