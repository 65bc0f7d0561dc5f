"""What the document promises over the whole program: its example, and that nothing changes but what is told to."""

import copy
import unittest

from sevenninths.boxes import Box, Corrector, Tester
from sevenninths.certificates import homs_certificate, homs_certificate_holds
from sevenninths.desk import Desk, replayed_desk
from sevenninths.doublebox import DoubleBox
from sevenninths.errors import NinthError
from sevenninths.groups import Group
from sevenninths.histories import history_end, history_holds, history_of
from sevenninths.homs import all_homs, hom_from
from sevenninths.keeping import Kept
from sevenninths.madegroups import cyclic_group, product_group, symmetric_group
from sevenninths.maps import broken, nearest_homs, voted, votes
from sevenninths.ninths import close_hom, hom_of, is_sure
from sevenninths.quotients import coset_of
from sevenninths.sampling import right_share, samples_for
from sevenninths.shares import Share
from sevenninths.subsets import factor_group, generators, subgroups

F = (0, 1, 2, 3, 0, 1, 3, 3, 0, 1, 2, 3)


class DocumentTest(unittest.TestCase):
    def test_its_example(self):
        one, two = cyclic_group(12), cyclic_group(4)
        self.assertEqual((broken(one, two, F), is_sure(one, two, F)), (31, True))
        self.assertEqual(votes(one, two, F, 6), (0, 1, 10, 1))
        self.assertIs(hom_of(one, two, F) == voted(one, two, F), True)

    def test_objects_stay_as_they_are(self):
        one, two = cyclic_group(12), cyclic_group(4)
        share = Share(9, 10)
        made = [one, two, share]
        before = [copy.deepcopy(vars(value)) for value in made]
        for call in (lambda: broken(one, two, F), lambda: close_hom(one, two, F), lambda: all_homs(one, two),
                     lambda: nearest_homs(one, two, F), lambda: homs_certificate(one, two), lambda: subgroups(one),
                     lambda: factor_group(one, (0, 6)), lambda: product_group(two, two), lambda: generators(one),
                     lambda: coset_of(one, (1, 5, 9)), lambda: right_share(one, two, F, 6, 3), lambda: samples_for(share),
                     lambda: share + 1 - share * 2, lambda: share.power(3), lambda: one.power(5, -7), lambda: one.commutative,
                     lambda: hom_from(one, two, (1,), (1,)), lambda: history_of(Desk(one, two))):
            first = call()
            self.assertEqual(call(), first)
            self.assertEqual([vars(value) for value in made], before)

    def test_refused_calls_change_nothing(self):
        two = symmetric_group(3)
        box, kept, desk, double = Box((0,) * 6), Kept(two, two, (0,) * 6), Desk(two, two), DoubleBox(3, ((0, 0, 0),) * 3)
        desk.run("put 1 1")
        desk.run("undo")
        corrector, tester = Corrector(two, two, box), Tester(two, two, box)
        made = [box, kept, desk, double, corrector, tester]
        before = [copy.deepcopy(vars(value)) for value in made[:4]]
        for call in (lambda: box.ask(6), lambda: kept.change(0, 6), lambda: kept.change(6, 0), lambda: kept.votes(-1),
                     lambda: desk.run("put 9 9"), lambda: desk.run("undo"), lambda: desk.run(""), lambda: desk.run("hom 1"),
                     lambda: double.ask(0, 3), lambda: double.corrected(0, 0, ((0, 0), (0, 0))),
                     lambda: corrector.answer(0, ()), lambda: tester.test(((0, 6),))):
            self.assertRaises(NinthError, call)
            self.assertEqual([vars(value) for value in made[:4]], before)
        self.assertEqual((corrector.box, tester.box, desk.run("redo")), (box, box, "0,1,0,0,0,0"))

    def test_changes_of_arguments_have_no_effect(self):
        table = [[0, 1], [1, 0]]
        row, lines = [0, 1, 1], ["put 0 1", "put 1 1"]
        two, box = Group(table), Box(row)
        desk = replayed_desk(two, two, lines)
        table[0][0], table[1], row[0] = 1, [], 9
        row.append(4)
        lines.clear()
        self.assertEqual((two.table, two.size, box.table, len(box)), (((0, 1), (1, 0)), 2, (0, 1, 1), 3))
        self.assertEqual((desk.lines, desk.table), (("put 0 1", "put 1 1"), (1, 1)))

    def test_a_way_through_the_program(self):
        # A map is led on a desk, told by its history, read again, put right by votes and shown by a certificate.
        one, two = symmetric_group(4), symmetric_group(3)
        hom = max(all_homs(one, two), key=lambda f: len(set(f)))
        chosen = generators(one)
        desk = Desk(one, two)
        desk.run("hom " + ",".join(str(hom[x]) for x in chosen))
        self.assertEqual(desk.table, hom)
        for x in (3, 11, 17):
            desk.run(f"put {x} {(hom[x] + 1) % 6}")
        f = desk.table
        self.assertIs(history_holds(history_of(desk)), True)
        self.assertEqual(history_end(history_of(desk)), f)
        self.assertEqual((close_hom(one, two, f), desk.run("wrong")), (hom, "3,11,17"))
        kept = Kept(one, two, hom)
        for x in (3, 11, 17):
            kept.change(x, f[x])
        self.assertEqual((kept.row, kept.broken, str(kept.broken)), (f, broken(one, two, f), desk.run("broken")))
        corrector = Corrector(one, two, Box(f))
        right = [corrector.answer(x, (y,)) == hom[x] for x in range(24) for y in range(24)]
        self.assertEqual(sum(right), sum(votes(one, two, f, x)[hom[x]] for x in range(24)))
        for x in (0, 3, 23):
            self.assertEqual(right_share(one, two, f, x, 1), Share(sum(right[24 * x:24 * x + 24]), 24))
        certificate = homs_certificate(one, two)
        self.assertIs(homs_certificate_holds(one, two, certificate), True)
        self.assertIn(("hom", tuple(hom[x] for x in chosen), hom), certificate)
