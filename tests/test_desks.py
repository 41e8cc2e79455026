"""Points 59 to 61: desks."""

import random
import unittest
from itertools import permutations

from nearcells.desks import Desk, replay, unlike
from nearcells.errors import CellError, InvalidBound, InvalidCall
from nearcells.subdivision import Subdivision
from tests import samples, slow
from tests.wrong_values import neither, no_deeds, no_sites

FOUR = [(0, 0), (2, 0), (0, 2), (1, 1)]
TRIANGLE = [[(0, 0), (2, 0), (0, 2)]]
HALVES = [[(0, 0), (1, 1), (0, 2)], [(0, 0), (2, 0), (1, 1)]]


def desk_of(sites):
    desk = Desk()
    for site in sites:
        desk.put(site)
    return desk


def state(desk):
    return (desk.sites(), desk.edges(), desk.faces(), desk.changes(), desk.deeds())


def differences(one, other):
    """What is in the first list alone, and in the other one alone."""
    return ([item for item in one if item not in other], [item for item in other if item not in one])


class Examples(unittest.TestCase):
    def test_e306(self):
        d = desk_of(FOUR)
        told = [d.changes()[0], d.undo(), d.edges(), d.deeds()]
        self.assertEqual(told, [[((0, 2), (2, 0))], True, [((0, 0), (0, 2)), ((0, 0), (2, 0)), ((0, 2), (2, 0))],
                                [("put", (0, 0)), ("put", (2, 0)), ("put", (0, 2))]])

    def test_e307(self):
        d = desk_of([(0, 0)])
        with self.assertRaises(InvalidCall) as caught:
            d.put((0, 0))
        self.assertEqual(caught.exception.call, ("put", (0, 0)))

    def test_changes_of_a_put(self):
        come = [((0, 0), (1, 1)), ((0, 2), (1, 1)), ((1, 1), (2, 0))]
        self.assertEqual(desk_of(FOUR).changes(), ([((0, 2), (2, 0))], come, TRIANGLE, HALVES))


class Deeds(unittest.TestCase):
    def test_a_new_desk(self):
        self.assertEqual(state(Desk()), ([], [], [], ([], [], [], []), []))
        self.assertIs(Desk().undo(), False)
        self.assertIs(Desk().redo(), False)

    def test_all_return_none(self):
        d = Desk()
        self.assertEqual([d.put((0, 0)), d.move((0, 0), (1, 1)), d.take((1, 1))], [None, None, None])

    def test_arguments_by_name(self):
        d = Desk()
        d.put(site=(0, 0))
        d.move(other=(5, 5), site=(0, 0))
        self.assertEqual(d.sites(), [(5, 5)])
        d.take(site=(5, 5))
        self.assertEqual(state(d)[:3], ([], [], []))

    def test_what_cannot_be_done(self):
        d = desk_of(FOUR)
        before = state(d)
        calls = [(lambda: d.put((1, 1)), ("put", (1, 1))), (lambda: d.take((5, 5)), ("take", (5, 5))),
                 (lambda: d.move((5, 5), (6, 6)), ("move", (5, 5), (6, 6))),
                 (lambda: d.move((0, 0), (1, 1)), ("move", (0, 0), (1, 1))),
                 (lambda: d.move((0, 0), (0, 0)), ("move", (0, 0), (0, 0))),
                 (lambda: d.move((5, 5), (5, 5)), ("move", (5, 5), (5, 5))),
                 (lambda: d.move((5, 5), (0, 0)), ("move", (5, 5), (0, 0)))]
        for call, right in calls:
            with self.assertRaises(InvalidCall) as caught:
                call()
            self.assertEqual(caught.exception.call, right)
            self.assertEqual(state(d), before)

    def test_wrong_sites(self):
        d = desk_of(FOUR)
        d.undo()
        before = state(d)
        for wrong in no_sites():
            for call, name in ((lambda: d.put(wrong), "site"), (lambda: d.take(wrong), "site"),
                               (lambda: d.move(wrong, wrong), "site"), (lambda: d.move((0, 0), wrong), "other"),
                               (lambda: d.move((9, 9), wrong), "other")):
                with self.assertRaises(InvalidBound) as caught:
                    call()
                self.assertEqual(caught.exception.argument, name)
        self.assertEqual(state(d), before)
        self.assertIs(d.redo(), True)
        self.assertEqual(d.sites(), sorted(FOUR))

    def test_two_hundred_sites(self):
        sites = samples.large()[0]
        d = desk_of(sites)
        with self.assertRaises(InvalidCall) as caught:
            d.put((7, 7))
        self.assertEqual(caught.exception.call, ("put", (7, 7)))
        d.move(sites[0], (7, 7))
        self.assertEqual(d.sites(), sorted(sites[1:] + [(7, 7)]))
        self.assertEqual(d.faces(), Subdivision(d.sites()).faces())
        self.assertIs(d.undo(), True)
        d.take(sites[5])
        d.put((7, 7))
        self.assertEqual(len(d.sites()), 200)

    def test_a_deed_that_fails_keeps_what_may_be_redone(self):
        d = desk_of(FOUR)
        d.undo()
        for call in (lambda: d.put((0, 0)), lambda: d.take((9, 9)), lambda: d.put(None)):
            with self.assertRaises(CellError):
                call()
        self.assertIs(d.redo(), True)
        self.assertEqual(d.deeds(), [("put", site) for site in FOUR])


class Random(unittest.TestCase):
    def test_many_deeds_with_undo_and_redo(self):
        spots = [(x, y) for x in range(3) for y in range(3)] + [(9, 1), (-4, 7)]
        for seed in range(25):
            chance, desk = random.Random(seed), Desk()
            held, undone, deeds, last = [[]], [], [], ([], [])
            for _ in range(25):
                kind, here, there = chance.randrange(6), chance.choice(spots), chance.choice(spots)
                now = held[-1]
                if kind == 4 and len(held) > 1:
                    undone.append((held.pop(), deeds.pop()))
                    last = (now, held[-1])
                    self.assertIs(desk.undo(), True)
                elif kind == 5 and undone:
                    rows, deed = undone.pop()
                    held.append(rows)
                    deeds.append(deed)
                    last = (now, rows)
                    self.assertIs(desk.redo(), True)
                elif kind < 4:
                    deed, rows = done(now, ("put", "put", "take", "move")[kind], here, there)
                    if rows is None:
                        with self.assertRaises(InvalidCall) as caught:
                            getattr(desk, deed[0])(*deed[1:])
                        self.assertEqual(caught.exception.call, deed)
                    else:
                        getattr(desk, deed[0])(*deed[1:])
                        held.append(rows)
                        deeds.append(deed)
                        undone, last = [], (now, rows)
                if chance.randrange(2):
                    self.check(desk, held[-1], deeds, last)

    def check(self, desk, rows, deeds, last):
        self.assertEqual(desk.sites(), rows)
        self.assertEqual(desk.deeds(), deeds)
        (edges, faces), (behind, others) = [(slow.edges(s), slow.faces(s)) for s in last]
        self.assertEqual((desk.edges(), desk.faces()), (slow.edges(rows), slow.faces(rows)))
        self.assertEqual(desk.changes(), (*differences(edges, behind), *differences(faces, others)))
        again = replay(deeds)
        self.assertTrue(again == desk)
        self.assertEqual(again.deeds(), deeds)


def done(rows, word, here, there):
    """The deed, and the sites behind it, or None if it cannot be done."""
    if word == "put":
        return (("put", here), None if here in rows else sorted(rows + [here]))
    rest = [site for site in rows if site != here]
    if word == "take":
        return (("take", here), rest if here in rows else None)
    fits = here in rows and there not in rows
    return (("move", here, there), sorted(rest + [there]) if fits else None)


class UndoAndRedo(unittest.TestCase):
    def test_at_the_ends(self):
        d = desk_of(FOUR[:2])
        self.assertEqual([d.redo(), d.undo(), d.undo()], [False, True, True])
        before = state(d)
        self.assertIs(d.undo(), False)
        self.assertEqual(state(d), before)
        self.assertEqual([d.redo(), d.redo()], [True, True])
        before = state(d)
        self.assertIs(d.redo(), False)
        self.assertEqual(state(d), before)

    def test_a_deed_behind_undo(self):
        d = desk_of(FOUR)
        d.undo()
        d.put((7, 7))
        self.assertIs(d.redo(), False)
        self.assertEqual(d.deeds(), [("put", site) for site in FOUR[:3] + [(7, 7)]])

    def test_changes_are_exchanged(self):
        for sites in samples.small(20):
            d = desk_of(sites)
            d.move(sites[0], (99, 98))
            told = d.changes()
            d.undo()
            self.assertEqual(d.changes(), (told[1], told[0], told[3], told[2]))
            self.assertEqual((d.edges(), d.faces()), (slow.edges(sites), slow.faces(sites)))
            d.redo()
            self.assertEqual(d.changes(), told)

    def test_both_halves_of_a_move(self):
        d = desk_of([(0, 0), (4, 0), (0, 4), (1, 1)])
        d.move((1, 1), (1, 2))
        gone, come, _, _ = d.changes()
        # Between the halves the edge ((0, 4), (4, 0)) is there alone; it was there before, too.
        self.assertEqual(gone, [((0, 0), (1, 1)), ((0, 4), (1, 1)), ((1, 1), (4, 0))])
        self.assertEqual(come, [((0, 0), (1, 2)), ((0, 4), (1, 2)), ((1, 2), (4, 0))])
        d = desk_of([(0, 0), (2, 0), (1, 0)])
        d.move((1, 0), (1, 5))
        self.assertEqual(d.changes()[:2], ([((0, 0), (1, 0)), ((1, 0), (2, 0))],
                                           [((0, 0), (1, 5)), ((0, 0), (2, 0)), ((1, 5), (2, 0))]))


class Told(unittest.TestCase):
    def test_what_is_told_is_new(self):
        d = desk_of(FOUR)
        before = state(d)
        for told in (d.sites(), d.edges(), d.faces(), d.faces()[0], d.changes()[1], d.changes()[3][0], d.deeds()):
            told.clear()
        self.assertEqual(state(d), before)

    def test_equality(self):
        for order in permutations(FOUR):
            self.assertTrue(desk_of(order) == desk_of(FOUR))
            self.assertFalse(desk_of(order) != desk_of(FOUR))
        d = desk_of(FOUR + [(9, 9)])
        self.assertFalse(d == desk_of(FOUR))
        d.undo()
        self.assertTrue(d == desk_of(FOUR))
        self.assertTrue(Desk() == Desk())
        for other in [one for one in neither() if not isinstance(one, Desk)] + [Subdivision(FOUR), FOUR, sorted(FOUR)]:
            self.assertIs(d == other, False)
            self.assertIs(other == d, False)
            self.assertIs(Desk() == other, False)
            self.assertIs(d != other, True)

    def test_an_edge_stays_where_others_are_taken_away(self):
        chance = random.Random(2)
        for sites in samples.small(40):
            d = desk_of(sites)
            while len(d.sites()) > 1:
                site = chance.choice(d.sites())
                kept = [edge for edge in d.edges() if site not in edge]
                d.take(site)
                self.assertTrue(set(kept) <= set(d.edges()))


class Replay(unittest.TestCase):
    def test_the_same_changes(self):
        d = desk_of(FOUR)
        d.move((1, 1), (5, 5))
        again = replay(d.deeds())
        self.assertEqual(state(again), state(d))
        d.undo()
        again = replay(deeds=d.deeds())
        self.assertTrue(again == d)
        self.assertEqual(again.deeds(), d.deeds())
        self.assertIs(again.redo(), False)
        self.assertTrue(replay([]) == Desk())

    def test_what_is_handed_in_stays(self):
        deeds = [("put", (0, 0)), ("put", (1, 1))]
        d = replay(deeds)
        deeds.append(("take", (0, 0)))
        self.assertEqual(d.deeds(), [("put", (0, 0)), ("put", (1, 1))])
        d.take((0, 0))
        self.assertEqual(len(deeds), 3)

    def test_wrong_lists(self):
        for wrong in no_deeds():
            with self.assertRaises(InvalidBound) as caught:
                replay(wrong)
            self.assertEqual(caught.exception.argument, "deeds")

    def test_what_the_first_deed_raises(self):
        for wrong in no_sites():
            for deed, name in ((("put", wrong), "site"), (("take", wrong), "site"), (("move", wrong, wrong), "site"),
                               (("move", (0, 0), wrong), "other")):
                with self.assertRaises(InvalidBound) as caught:
                    replay([("put", (0, 0)), deed, ("take", None)])
                self.assertEqual(caught.exception.argument, name)
        for deed in (("put", (0, 0)), ("take", (1, 1)), ("move", (0, 0), (0, 0)), ("move", (1, 1), (2, 2))):
            with self.assertRaises(InvalidCall) as caught:
                replay([("put", (0, 0)), deed, ("put", None)])
            self.assertEqual(caught.exception.call, deed)


class Unlike(unittest.TestCase):
    def test_against_a_plain_way(self):
        sets = samples.small(30)
        for one, other in zip(sets, sets[1:] + sets[:1]):
            sites = differences(sorted(one), sorted(other))
            told = unlike(desk_of(one), other=desk_of(other))
            self.assertEqual(told, (*sites, *differences(slow.edges(one), slow.edges(other))))
        self.assertEqual(unlike(Desk(), Desk()), ([], [], [], []))
        self.assertEqual(unlike(Desk(), desk_of(FOUR[:2])), ([], [(0, 0), (2, 0)], [], [((0, 0), (2, 0))]))

    def test_what_is_no_desk(self):
        for wrong in [one for one in neither() if not isinstance(one, Desk)]:
            for one, other, name in ((wrong, Desk(), "one"), (wrong, wrong, "one"), (Desk(), wrong, "other")):
                with self.assertRaises(InvalidBound) as caught:
                    unlike(one, other)
                self.assertEqual(caught.exception.argument, name)
