"""[20], [21]: things that come and go; with [3] (d), the parts as told, no more made than told, answers of what is there."""

import copy
import random
import unittest

import samples
from boxlayers.answers import answer
from boxlayers.boxes import plain_box
from boxlayers.errors import BoxError, NoThing, Taken
from boxlayers.keeping import Kept, most_made
from boxlayers.turnasks import by_turns
from boxlayers.turns import turns


class Plainly:
    """A kept house as the document tells it: parts [rank, [[thing, whether it is gone], ..]]."""

    def __init__(self, d):
        self.d = d
        self.rows = []
        self.made = 0

    def things(self):
        return sorted(thing for rank, row in self.rows for thing, gone in row if not gone)

    def put_in(self, rank, row):
        met = [part for part in self.rows if part[0] == rank]
        if met:
            self.rows.remove(met[0])
            self.put_in(rank + 1, [each for each in met[0][1] if not each[1]] + row)
        else:
            self.rows.append([rank, row])
            self.made += len(row)

    def come(self, thing):
        self.put_in(0, [[thing, False]])

    def go(self, name):
        part, = [part for part in self.rows if [name, False] in [[thing[0], gone] for thing, gone in part[1]]]
        for each in part[1]:
            each[1] = each[1] or each[0][0] == name
        left = [each for each in part[1] if not each[1]]
        if len(left) < len(part[1]) - len(left):
            self.rows.remove(part)
            if left:
                self.put_in(min(rank for rank in range(20) if 2 ** rank >= len(left)), left)

    def parts(self):
        told = [(rank, tuple(thing[0] for thing, gone in row), tuple(gone for thing, gone in row)) for rank, row in self.rows]
        return tuple(sorted(told, reverse=True))

    def looks(self, ask):
        """The looks of all parts together."""
        looks, plain = 0, plain_box(ask[1])
        for rank, row in self.rows:
            house = (self.d, tuple(sorted(thing for thing, gone in row)))
            tree = samples.turned_tree(house)
            if ask[0] in ("near", "best"):
                gone = [thing[0] for thing, is_gone in row if is_gone]
                looks += samples.drawn_plainly(house, tree, plain, samples.kind_of(ask), ask[-1], gone)[1]
            else:
                looks += samples.taken_plainly(tree, plain)[1]
        return looks


def told_of(kept):
    """All that a kept house tells of itself."""
    return (kept.house(), kept.parts(), kept.made())


def some_deeds(dice, d, many, names, going, numbers=range(-4, 5), worths=range(-9, 10)):
    """Deeds by a seeded source: ("come", thing) and ("go", name), none of which is refused."""
    there = []
    for each in range(many):
        free = [name for name in names if name not in there]
        if there and (not free or dice.random() < going):
            there.remove(name := dice.choice((there[0], there[-1], dice.choice(there))))
            yield ("go", name)
        else:
            there.append(name := dice.choice(free))
            yield ("come", (name, tuple(dice.choice(numbers) for i in range(d)), dice.choice(worths)))


def stories(dice, lengths=(1, 2, 5, 20, 60, 100)):
    """(d, deeds): few names that come anew over and over, many names, more comings, more goings, all at one place."""
    for d in range(1, 5):
        for many in lengths:
            names, going = dice.choice(((range(4), 0.5), (range(12), 0.45), (range(200), 0.2), (range(50), 0.4)))
            numbers = dice.choice((range(-4, 5), range(0, 2), range(5, 6), range(-99, 100), (-samples.BIG, samples.BIG)))
            yield d, list(some_deeds(dice, d, many, names, going, numbers))


def do(kept, deed):
    return kept.come(deed[1]) if deed[0] == "come" else kept.go(deed[1])


def all_asks(dice, house):
    """Asks of all eight words, of some boxes."""
    asks = []
    for box in samples.asked_boxes(dice, house, 2):
        asks += samples.plain_asks(dice, box, len(house[1])) + samples.drawn_asks(dice, house, box)
    return asks


def at(name, number=0, worth=0):
    return (name, (number,), worth)


class ByHand(unittest.TestCase):
    def kept(self, *names):
        kept = Kept(1)
        for name in names:
            kept.come(at(name, 10 * name, name))
        return kept

    def test_none(self):
        for d in range(1, 5):
            kept = Kept(d)
            self.assertEqual(told_of(kept), ((d, ()), (), 0))
            self.assertEqual(kept.ask(("count", samples.whole(d))), (0, 0))
            self.assertEqual(kept.ask(("least", samples.whole(d))), (None, 0))
            self.assertEqual(kept.ask(("best", samples.whole(d), 3)), ((), 0))

    def test_comings(self):
        for names, parts, made in [
            ((7,), ((0, (7,), (False,)),), 1),
            ((7, 3), ((1, (7, 3), (False, False)),), 3),
            ((7, 3, 5), ((1, (7, 3), (False, False)), (0, (5,), (False,))), 4),
            ((7, 3, 5, 1), ((2, (7, 3, 5, 1), (False,) * 4),), 8),
            ((7, 3, 5, 1, 9), ((2, (7, 3, 5, 1), (False,) * 4), (0, (9,), (False,))), 9),
            ((7, 3, 5, 1, 9, 0), ((2, (7, 3, 5, 1), (False,) * 4), (1, (9, 0), (False,) * 2)), 11),
            ((7, 3, 5, 1, 9, 0, 2, 4), ((3, (7, 3, 5, 1, 9, 0, 2, 4), (False,) * 8),), 20),
        ]:
            kept = self.kept(*names)
            self.assertEqual((kept.parts(), kept.made()), (parts, made), names)
            self.assertEqual(kept.house(), (1, tuple(at(name, 10 * name, name) for name in sorted(names))))

    def test_goings(self):
        kept = self.kept(7, 3, 5, 1)
        self.assertIsNone(kept.go(3))
        self.assertEqual((kept.parts(), kept.made()), (((2, (7, 3, 5, 1), (False, True, False, False)),), 8))
        # Half of them gone: the part stays.
        kept.go(7)
        self.assertEqual((kept.parts(), kept.made()), (((2, (7, 3, 5, 1), (True, True, False, False)),), 8))
        self.assertEqual(kept.house(), (1, (at(1, 10, 1), at(5, 50, 5))))
        # More than half: what is left is put in, of the least rank.
        kept.go(1)
        self.assertEqual((kept.parts(), kept.made()), (((0, (5,), (False,)),), 9))
        kept.go(5)
        self.assertEqual(told_of(kept), ((1, ()), (), 9))

    def test_what_is_left_meets_a_part(self):
        kept = self.kept(0, 1, 2, 3, 4)
        for name in (1, 2, 3):
            kept.go(name)
        # 0 is left, of rank 0, where 4 stands: 4, then 0 make one of rank 1.
        self.assertEqual((kept.parts(), kept.made()), (((1, (4, 0), (False, False)),), 11))
        kept = self.kept(0, 1, 2, 3, 4, 5, 6, 7, 8, 9, 10)
        self.assertEqual([part[:2] for part in kept.parts()], [(3, tuple(range(8))), (1, (8, 9)), (0, (10,))])
        self.assertEqual(kept.made(), 20 + 1 + 2 + 1)
        kept.go(8)
        for name in (0, 2, 4, 6):
            kept.go(name)
        self.assertEqual(kept.made(), 24)
        kept.go(1)
        # 3, 5 and 7 are left: of rank 2.
        self.assertEqual([part[:2] for part in kept.parts()], [(2, (3, 5, 7)), (1, (8, 9)), (0, (10,))])
        self.assertEqual(kept.made(), 27)
        kept.go(5)
        kept.go(3)
        # 7 is left, of rank 0: 10, 7 of rank 1; there 8 is gone: 9, 10, 7 of rank 2.
        self.assertEqual(kept.parts(), ((2, (9, 10, 7), (False,) * 3),))
        self.assertEqual(kept.made(), 30)

    def test_a_chain_passes_gone_ones_over(self):
        kept = self.kept(7, 3)
        kept.go(3)
        kept.come(at(4))
        self.assertEqual(kept.parts(), ((1, (7, 3), (False, True)), (0, (4,), (False,))))
        kept.come(at(6))
        self.assertEqual((kept.parts(), kept.made()), (((2, (7, 4, 6), (False,) * 3),), 3 + 1 + 3))

    def test_a_name_comes_anew(self):
        kept = self.kept(7, 3)
        kept.go(3)
        kept.come(at(3, -5, 100))
        self.assertEqual(kept.parts(), ((1, (7, 3), (False, True)), (0, (3,), (False,))))
        self.assertEqual(kept.house(), (1, (at(3, -5, 100), at(7, 70, 7))))
        self.assertEqual(kept.ask(("all", samples.whole(1)))[0], (3, 7))
        # The old place tells nothing, the new one does.
        self.assertEqual(kept.ask(("count", (((30, True), (30, True)),)))[0], 0)
        self.assertEqual(kept.ask(("sum", (((-5, True), (-5, True)),)))[0], 100)
        self.assertEqual(kept.ask(("best", samples.whole(1), 5))[0], (3, 7))
        kept.go(3)
        self.assertEqual(kept.parts(), ((1, (7, 3), (False, True)),))
        kept.come(at(3, 1, 1))
        kept.come(at(8, 1, 1))
        self.assertEqual(kept.parts(), ((2, (7, 3, 8), (False,) * 3),))

    def test_one_name_over_and_over(self):
        kept = Kept(1)
        for each in range(1, 30):
            kept.come(at(0, each, each))
            self.assertEqual(told_of(kept), ((1, (at(0, each, each),)), ((0, (0,), (False,)),), each))
            kept.go(0)
            self.assertEqual(told_of(kept), ((1, ()), (), each))

    def test_refusals(self):
        kept = self.kept(7, 3, 5)
        kept.go(3)
        before = told_of(kept)
        for name in (7, 5):
            with self.assertRaises(Taken):
                kept.come(at(name, 1, 1))
        for name in (3, 0, 99, -1, -7, samples.BIG):
            with self.assertRaises(NoThing):
                kept.go(name)
        self.assertEqual(told_of(kept), before)
        for refusal in (Taken, NoThing):
            self.assertEqual(refusal.__bases__, (BoxError,))

    def test_looks(self):
        kept = self.kept(1, 2, 3)
        whole = samples.whole(1)
        # Parts (1, 2) and (3).
        for ask, told in [
            (("count", whole), (3, 2)), (("sum", whole), (6, 2)), (("least", whole), (1, 2)), (("most", whole), (3, 2)),
            (("all", whole), ((1, 2, 3), 2)), (("first", whole, 2), ((1, 2), 2)), (("first", whole, 0), ((), 2)),
            (("count", (((20, True), None),)), (2, 4)), (("best", whole, 0), ((), 0)),
            (("near", whole, (0,), 0), ((), 0)), (("best", whole, 1), ((3,), 3)), (("best", whole, 2), ((3, 2), 4)),
            (("near", whole, (0,), 1), ((1,), 3)), (("near", whole, (0,), 9), ((1, 2, 3), 4)),
        ]:
            self.assertEqual(kept.ask(ask), told, ask)
        kept.go(2)
        # Of the best ones 2 is looked at, tells nothing and doesn't count.
        for ask, told in [
            (("count", whole), (2, 2)), (("sum", whole), (4, 2)), (("count", (((20, True), None),)), (1, 4)),
            (("best", whole, 1), ((3,), 4)), (("near", whole, (25,), 1), ((3,), 4)), (("near", whole, (0,), 1), ((1,), 3)),
            (("best", whole, 0), ((), 0)), (("near", whole, (20,), 2), ((1, 3), 4)),
        ]:
            self.assertEqual(kept.ask(ask), told, ask)

    def test_most_made(self):
        for comings, goings, told in [
            (0, 0, 0), (0, 5, 5), (1, 0, 1), (1, 1, 2), (2, 0, 4), (2, 3, 10), (3, 0, 6), (3, 2, 10), (4, 0, 12), (5, 1, 18),
            (7, 0, 21), (8, 0, 32), (8, 8, 64), (9, 0, 36), (255, 0, 2040), (256, 0, 2304), (257, 100, 3213),
        ]:
            self.assertTrue(samples.is_like(most_made(comings, goings), told), (comings, goings))


class Story(unittest.TestCase):
    def test_behind_each_deed(self):
        dice = random.Random(240)
        for d, deeds in list(stories(dice)) + list(stories(dice, (40, 100))):
            kept, plainly = Kept(d), Plainly(d)
            for deed in deeds:
                self.assertIsNone(do(kept, deed))
                do(plainly, deed)
                wanted = ((d, tuple(plainly.things())), plainly.parts(), plainly.made)
                self.assertTrue(samples.is_like(told_of(kept), wanted), deeds)

    def test_ranks_fall_and_names_stand_once(self):
        dice = random.Random(241)
        for d, deeds in stories(dice):
            kept = Kept(d)
            for deed in deeds:
                do(kept, deed)
                ranks = [rank for rank, names, gone in kept.parts()]
                self.assertEqual(ranks, sorted(set(ranks), reverse=True))
                there = []
                for rank, names, gone in kept.parts():
                    self.assertEqual(len(set(names)), len(names))
                    self.assertTrue(len(names) == len(gone) and 2 * sum(gone) <= len(names) <= 2 ** rank)
                    there += [name for name, is_gone in zip(names, gone) if not is_gone]
                self.assertEqual(sorted(there), list(samples.names_of(kept.house()[1])))

    def test_refused_deeds_change_nothing(self):
        dice = random.Random(242)
        for d, deeds in stories(dice, (5, 30)):
            kept = Kept(d)
            for deed in deeds:
                do(kept, deed)
                before = told_of(kept)
                there = samples.names_of(kept.house()[1])
                for name in range(-1, 15):
                    if name in there:
                        with self.assertRaises(Taken):
                            kept.come((name, (9,) * d, 9))
                    else:
                        with self.assertRaises(NoThing):
                            kept.go(name)
                self.assertEqual(told_of(kept), before)

    def test_no_more_is_made_than_told(self):
        dice = random.Random(243)
        for d, deeds in list(stories(dice)) + list(stories(dice)):
            kept, many = Kept(d), {"come": 0, "go": 0}
            for deed in deeds:
                do(kept, deed)
                many[deed[0]] += 1
                self.assertLessEqual(kept.made(), most_made(many["come"], many["go"]), deeds)

    def test_no_more_is_made_than_told_of_wicked_deeds(self):
        # Up to powers of two and round about them, then going from either side, and to and fro at the brim.
        for size in (1, 2, 3, 4, 7, 8, 9, 15, 16, 17, 31, 32, 33, 64):
            rows = [list(range(size)), list(range(size))[::-1], list(range(0, size, 2)) + list(range(1, size, 2))]
            for row in rows:
                kept, comings, goings = Kept(1), 0, 0
                for again in range(2):
                    for name in range(size):
                        kept.come(at(name, name))
                        comings += 1
                        self.assertLessEqual(kept.made(), most_made(comings, goings))
                    for each in range(3):
                        kept.come(at(999))
                        kept.go(999)
                        comings, goings = comings + 1, goings + 1
                        self.assertLessEqual(kept.made(), most_made(comings, goings))
                    for name in row:
                        kept.go(name)
                        goings += 1
                        self.assertLessEqual(kept.made(), most_made(comings, goings))
                self.assertEqual(kept.parts(), ())

    def test_most_made_as_the_document_tells(self):
        for comings in samples.powers_and_beside(400):
            rank = max([r for r in range(20) if 2 ** r <= comings], default=0)
            for goings in (0, 1, 2, comings // 2, comings, 400):
                self.assertTrue(samples.is_like(most_made(comings, goings), (comings + goings) * (1 + rank)))
                self.assertEqual(most_made(comings=comings, goings=goings), most_made(comings, goings))


class Ask(unittest.TestCase):
    def test_behind_each_deed(self):
        dice = random.Random(244)
        for d, deeds in stories(dice, (3, 12, 30)):
            kept, plainly = Kept(d), Plainly(d)
            for deed in deeds:
                do(kept, deed)
                do(plainly, deed)
                house = kept.house()
                for ask in dice.sample(all_asks(dice, house), 12):
                    wanted = (answer(house, ask), plainly.looks(ask))
                    self.assertTrue(samples.is_like(kept.ask(ask), wanted), (deeds, ask))

    def test_all_words_behind_longer_stories(self):
        dice = random.Random(245)
        for d, deeds in stories(dice, (50, 100)):
            kept, plainly = Kept(d), Plainly(d)
            for deed in deeds:
                do(kept, deed)
                do(plainly, deed)
            house = kept.house()
            for ask in all_asks(dice, house):
                wanted = (answer(house, ask), plainly.looks(ask))
                self.assertTrue(samples.is_like(kept.ask(ask), wanted), (deeds, ask))

    def test_of_one_part_as_by_turns_asks(self):
        dice = random.Random(246)
        for d in range(1, 5):
            for many in (1, 2, 4, 8, 16):
                house = samples.made_house(dice, d, many)
                kept = Kept(d)
                for thing in dice.sample(house[1], many):
                    kept.come(thing)
                self.assertEqual(kept.house(), house)
                for ask in all_asks(dice, house):
                    self.assertEqual(kept.ask(ask), by_turns(house, turns(house), ask))

    def test_as_many_things_as_told(self):
        dice = random.Random(247)
        for d, many in ((2, 300), (4, 60)):
            house = samples.made_house(dice, d, many, range(-30, 31))
            kept, plainly = Kept(d), Plainly(d)
            deeds = [("come", thing) for thing in house[1]]
            deeds += [("go", name) for name in dice.sample(samples.names_of(house[1]), many // 3)]
            for deed in deeds:
                do(kept, deed)
                do(plainly, deed)
            self.assertEqual(kept.parts(), plainly.parts())
            now = kept.house()
            for ask in dice.sample(all_asks(dice, now), 15):
                self.assertEqual(kept.ask(ask), (answer(now, ask), plainly.looks(ask)))

    def test_asked_again_the_same_is_told_and_nothing_changes(self):
        dice = random.Random(248)
        for d, deeds in stories(dice, (20,)):
            before_deeds = copy.deepcopy(tuple(deeds))
            kept, other = Kept(d), Kept(d)
            for deed in deeds:
                do(kept, deed)
                do(other, deed)
            self.assertTrue(samples.is_like(tuple(deeds), before_deeds))
            before = told_of(kept)
            asks = all_asks(dice, before[0])
            asks_before = copy.deepcopy(asks)
            first = [kept.ask(ask) for ask in asks]
            self.assertEqual([kept.ask(ask=ask) for ask in asks], first)
            self.assertEqual([other.ask(ask) for ask in asks], first)
            self.assertEqual(asks, asks_before)
            self.assertEqual(told_of(kept), before)
            self.assertTrue(samples.is_told((tuple(first), before)))

    def test_two_kept_houses_know_nothing_of_one_another(self):
        one, other = Kept(1), Kept(1)
        one.come(thing=at(4))
        self.assertEqual(other.parts(), ())
        other.come(at(4, 7))
        one.go(name=4)
        self.assertEqual(other.house(), (1, (at(4, 7),)))


if __name__ == "__main__":
    unittest.main()
