"""[19]: whether a thing is a paper of drawn names; with [3] (c), taken just where nothing unseen can come ahead."""

import copy
import itertools
import random
import unittest

import samples
from boxlayers.answers import answer
from boxlayers.boxes import plain_box
from boxlayers.drawnlooks import shows_drawn
from boxlayers.drawnpapers import drawn_paper
from boxlayers.turns import turns


def key_of_thing(thing, kind):
    """(its steps, name) or (0 less its worth, name)."""
    name, place, worth = thing
    if kind[0] == "best":
        return (0 - worth, name)
    return (sum(abs(one - other) for one, other in zip(place, kind[1])), name)


def is_part_so(house, tree, box, names, last, kind, part):
    """Whether a part of the form of [19] tells what is so, last being the key of the last name."""
    below = samples.at_path(tree, part[0])
    if below is None:
        return False
    places = [place for name, place, worth in house[1] if name in below[0]]
    if part[1] == "in":
        return len(places) == 1 and below[0][0] in names and samples.place_fits(box, places[0])
    if part[1] == "far":
        return last is None or samples.key_plainly(house, below, kind) > last
    return part[2:] in samples.ways_out(below[1], plain_box(box))


def is_paper(house, tree, box, kind, k, names, parts):
    """Whether whole numbers and parts of that form are a paper."""
    things = {thing[0]: thing for thing in house[1]}
    if not all(name in things for name in names) or len(set(names)) < len(names):
        return False
    keys = [key_of_thing(things[name], kind) for name in names]
    if keys != sorted(keys) or len(names) > k or (len(names) < k and any(part[1] == "far" for part in parts)):
        return False
    last = keys[-1] if keys else None
    if not all(is_part_so(house, tree, box, names, last, kind, part) for part in parts):
        return False
    ins = [samples.at_path(tree, part[0])[0][0] for part in parts if part[1] == "in"]
    held = [name for part in parts for name in samples.at_path(tree, part[0])[0]]
    return sorted(ins) == sorted(names) and sorted(held) == sorted(things)


def asked(dice, house, tree, many=2, asks=5):
    """(box, kind, k, paper) of some boxes and asks."""
    for box in samples.asked_boxes(dice, house, many):
        for ask in dice.sample(samples.drawn_asks(dice, house, box), asks):
            kind, k = samples.kind_of(ask), ask[-1]
            yield box, kind, k, drawn_paper(house, tree, box, kind, k)


class ByHand(unittest.TestCase):
    # Low has 0 and 1, high 2 and 3; of the best ones 2 comes first, then 0, 1, 3.
    house = (1, ((0, (1,), 5), (1, (4,), 5), (2, (6,), 9), (3, (9,), -1)))

    def shows(self, thing, k, box=samples.whole(1), kind=("best",)):
        return shows_drawn(self.house, turns(self.house), box, kind, k, thing)

    def test_papers(self):
        fit = ((None, (5, True)),)
        for names, parts, k, box in [
            ((2,), (((0,), "far"), ((1, 0), "in"), ((1, 1), "far")), 1, samples.whole(1)),
            ((2,), (((1, 1), "far"), ((0,), "far"), ((1, 0), "in")), 1, samples.whole(1)),
            ((2,), (((0, 1), "far"), ((0, 0), "far"), ((1, 0), "in"), ((1, 1), "far")), 1, samples.whole(1)),
            ((), (((), "far"),), 0, samples.whole(1)),
            ((), (((0,), "far"), ((1,), "far")), 0, samples.whole(1)),
            ((), (((0,), "far"), ((1,), "out", 0, 1)), 0, fit),
            ((), (((0,), "far"), ((1,), "far")), 0, fit),
            ((0,), (((0, 0), "in"), ((0, 1), "far"), ((1,), "out", 0, 1)), 1, fit),
            ((0,), (((0, 0), "in"), ((0, 1), "far"), ((1, 1), "out", 0, 1), ((1, 0), "out", 0, 1)), 1, fit),
            # 3 is out, and behind 0, too.
            ((0,), (((0, 0), "in"), ((0, 1), "far"), ((1, 1), "far"), ((1, 0), "out", 0, 1)), 1, fit),
            ((0, 1), (((0, 0), "in"), ((0, 1), "in"), ((1,), "out", 0, 1)), 2, fit),
            ((0, 1), (((0, 0), "in"), ((0, 1), "in"), ((1,), "out", 0, 1)), 3, fit),
            ((0, 1), (((0, 0), "in"), ((0, 1), "in"), ((1,), "out", 0, 1)), 99, fit),
        ]:
            self.assertIs(self.shows((names, parts), k, box), True, (names, parts))

    def test_none(self):
        whole, fit = samples.whole(1), ((None, (5, True)),)
        far = (((0,), "far"), ((1, 0), "in"), ((1, 1), "far"))
        all_in = (((0, 0), "in"), ((0, 1), "in"), ((1, 0), "in"), ((1, 1), "in"))
        for thing, k, box in [
            # As many names as k, or fewer where no part is far.
            (((2,), far), 0, whole), (((2,), far), 2, whole), (((), (((), "far"),)), 1, whole),
            (((2, 0, 1, 3), all_in), 3, whole), (((0, 1), (((0, 0), "in"), ((0, 1), "in"), ((1,), "out", 0, 1))), 1, fit),
            # Names otherwise.
            (((), far), 1, whole), (((0,), far), 1, whole), (((2, 0), far), 2, whole), (((2, 2), far), 2, whole),
            (((2, 1, 0, 3), all_in), 4, whole), (((0, 1, 2, 3), all_in), 4, whole), (((2, 0, 1), all_in), 4, whole),
            (((2, 0, 1, 3, 3), all_in), 5, whole), (((2, 0, True, 3), all_in), 4, whole), (((2, False, 1, 3), all_in), 4, whole),
            (([2, 0, 1, 3], all_in), 4, whole), (((2, 0, 1, 7), all_in), 4, whole), (((2.0, 0, 1, 3), all_in), 4, whole),
            # A far one that comes ahead.
            (((0,), (((0, 0), "in"), ((0, 1), "far"), ((1,), "far"))), 1, whole),
            (((0,), (((0, 0), "in"), ((0, 1), "far"), ((1,), "far"))), 1, fit),
            (((1,), (((0, 1), "in"), ((0, 0), "far"), ((1,), "out", 0, 1))), 1, fit),
            # In of several things, in of none of the names, in of what doesn't fit.
            (((2, 3), (((0,), "far"), ((1,), "in"))), 2, whole), (((2,), (((0,), "far"), ((1,), "in"))), 1, whole),
            (((2, 0), (((0,), "far"), ((1, 0), "in"), ((1, 1), "in"))), 2, whole),
            (((2,), (((0,), "out", 0, 0), ((1, 0), "in"), ((1, 1), "out", 0, 1))), 1, fit),
            # A part left out, one twice, one within another one.
            (((2,), far[1:]), 1, whole), (((2,), far[:2]), 1, whole), (((2,), far + far[:1]), 1, whole),
            (((2,), far + (((0, 0), "far"),)), 1, whole), (((2,), far + (((1, 0), "in"),)), 1, whole),
            (((2,), far[::2]), 1, whole), (((2,), (((), "far"),)), 1, whole),
            # Out that isn't so.
            (((2,), (((0,), "out", 0, 0),) + far[1:]), 1, whole), (((2,), (((0,), "out", 0, 1),) + far[1:]), 1, fit),
            # Other forms.
            (((2,), list(far)), 1, whole), ([(2,), far], 1, whole), (((2,), far, ()), 1, whole), (((2,),), 1, whole),
            (((2,), (((False,), "far"),) + far[1:]), 1, whole), (((2,), (((0,), "far", 0),) + far[1:]), 1, whole),
            (((2,), (([0], "far"),) + far[1:]), 1, whole), (((2,), (((0,), "Far"),) + far[1:]), 1, whole),
            ((far, (2,)), 1, whole), (far, 1, whole), ((), 0, whole), (((), ()), 0, whole), (((), ()), 3, whole),
            (None, 0, whole), (True, 0, whole), (0, 0, whole),
        ]:
            self.assertIs(self.shows(thing, k, box), False, (thing, k))

    def test_keys_of_like_worths_stand_by_names(self):
        # High has a key of like far and a lesser name than 1: it may come ahead, though none of it does.
        house = (1, ((0, (3,), 2), (1, (0,), 5), (2, (4,), 5)))
        tree = turns(house)
        self.assertEqual([tree[2][0], tree[3][0]], [(0, 1), (2,)])
        tree = samples.parted_tree(list(house[1]), lambda things, depth: [t for t in things if t[0] == 1] or things[:1])
        paper = ((1,), (((0,), "in"), ((1,), "far")))
        self.assertIs(shows_drawn(house, tree, samples.whole(1), ("best",), 1, paper), False)
        self.assertEqual(drawn_paper(house, tree, samples.whole(1), ("best",), 1)[0], (1,))
        paper = ((1,), (((0,), "in"), ((1, 0), "far"), ((1, 1), "far")))
        self.assertIs(shows_drawn(house, tree, samples.whole(1), ("best",), 1, paper), True)

    def test_the_empty_box(self):
        for span in (((1, True), (0, True)), ((7, False), (8, False))):
            for side in (0, 1):
                for k in (0, 1, 9):
                    self.assertIs(self.shows(((), (((), "out", 0, side),)), k, (span,)), True)
                    self.assertIs(self.shows(((), (((0,), "out", 0, side), ((1,), "out", 0, 1 - side))), k, (span,)), True)
                    self.assertIs(self.shows(((), (((), "out", 1, side),)), k, (span,)), False)
                    self.assertIs(self.shows(((), (((), "far"),)), k, (span,)), k == 0)

    def test_of_no_tree(self):
        for d in range(1, 5):
            for box in samples.edge_boxes(d)[:3]:
                for k in (0, 1, 5):
                    for kind in (("best",), ("near", (0,) * d)):
                        self.assertIs(shows_drawn((d, ()), None, box, kind, k, ((), ())), True)
                        for thing in (((), (((), "far"),)), ((), (((), "out", 0, 0),)), ((0,), ()), ((), ((),)), ((), []),
                                      ([], ()), ((), (), ()), ((),), (), None, ((0,), (((), "in"),))):
                            self.assertIs(shows_drawn((d, ()), None, box, kind, k, thing), False)


class ShowsDrawn(unittest.TestCase):
    def test_all_papers_of_small_trees(self):
        dice = random.Random(220)
        seen = {True: 0, False: 0}
        for d, many, most in ((1, 1, 2), (1, 2, 2), (1, 3, 3)):
            house = samples.made_house(dice, d, many, range(-1, 2), range(0, 2))
            tree = samples.any_tree(dice, house)
            parts = [part for part in samples.all_parts(tree, d, ("in", "far")) if many < 3 or part[1:] != ("out", 0, 1)]
            all_names = list(samples.names_of(house[1])) + [99]
            rows = [row for length in range(most + 1) for row in itertools.product(parts, repeat=length)]
            if many == 3:
                rows = dice.sample(rows, 1200) + [row for row in rows if len({part[0] for part in row}) == 3][::9]
            for box in samples.asked_boxes(dice, house, 1)[:2] + samples.asked_boxes(dice, house, 1)[-1:]:
                for kind in (("best",), ("near", (0,))):
                    for row in rows:
                        ins = [samples.at_path(tree, part[0]) for part in row if part[1] == "in"]
                        wanted = tuple(each[0][0] for each in ins if each is not None)
                        for names in {wanted, wanted[::-1], wanted[1:], tuple(dice.sample(all_names, dice.randint(0, 2)))}:
                            for k in {len(names), dice.randint(0, 3)}:
                                told = shows_drawn(house, tree, box, kind, k, (names, row))
                                wanted_told = is_paper(house, tree, box, kind, k, names, row)
                                self.assertIs(told, wanted_told, (house, box, kind, k, names, row))
                                seen[told] += 1
        self.assertGreater(min(seen.values()), 100)

    def test_of_what_drawn_paper_tells_in_any_order_and_parted_further(self):
        dice = random.Random(221)
        for house in samples.some_houses(dice, (0, 1, 2, 3, 6, 13, 25)):
            for tree in samples.both_trees(dice, house):
                for box, kind, k, (names, parts) in asked(dice, house, tree):
                    mixed = tuple(dice.sample(parts, len(parts)))
                    further = [samples.parted_further(dice, tree, parts, plain_box(box), often) for often in (0, 0.5, 1)]
                    for each in [parts, parts[::-1], mixed] + further:
                        self.assertIs(shows_drawn(house, tree, box, kind, k, (names, each)), True, (house, box, each))

    def test_far_or_out_where_it_is_both(self):
        dice = random.Random(222)
        both = 0
        for house in samples.some_houses(dice, (2, 6, 13)):
            tree = samples.any_tree(dice, house)
            things = {thing[0]: thing for thing in house[1]}
            for box, kind, k, (names, parts) in asked(dice, house, tree, 4):
                last = key_of_thing(things[names[-1]], kind) if names else None
                for at, part in enumerate(parts):
                    below = samples.at_path(tree, part[0])
                    far = len(names) == k and (last is None or samples.key_plainly(house, below, kind) > last)
                    ways = samples.ways_out(below[1], plain_box(box))
                    for other in [(part[0], "far")] + [(part[0], "out") + way for way in ways]:
                        told = shows_drawn(house, tree, box, kind, k, (names, parts[:at] + (other,) + parts[at + 1:]))
                        so = part[1] != "in" and (other[1] == "out" or far)
                        self.assertIs(told, so, (house, box, kind, k, names, parts, other))
                    both += far and len(ways) > 0 and part[1] != "in"
        self.assertGreater(both, 50)

    def test_other_names(self):
        dice = random.Random(223)
        for house in samples.some_houses(dice, (1, 2, 6, 13)):
            tree = turns(house)
            for box, kind, k, (names, parts) in asked(dice, house, tree):
                for at in range(len(names)):
                    other = dice.choice(house[1])[0]
                    for row in (names[:at] + names[at + 1:], names[:at] + names[at:at + 1] + names[at:],
                                names[:at] + (other,) + names[at + 1:], names + (other,), names + (10 ** 6,),
                                names[:at] + names[at + 1:] + names[at:at + 1]):
                        if row != names:
                            for many in {k, len(row)}:
                                self.assertIs(shows_drawn(house, tree, box, kind, many, (row, parts)), False)
                self.assertIs(shows_drawn(house, tree, box, kind, k, (list(names), parts)), False)
                if names != names[::-1]:
                    self.assertIs(shows_drawn(house, tree, box, kind, k, (names[::-1], parts)), False)

    def test_k_one_more_or_less(self):
        dice = random.Random(224)
        for house in samples.some_houses(dice, (1, 2, 6, 13)):
            tree = samples.any_tree(dice, house)
            for box, kind, k, (names, parts) in asked(dice, house, tree):
                far = any(part[1] == "far" for part in parts)
                for other in (k - 1, k + 1, k + 7):
                    if other >= 0:
                        so = len(names) == other or (len(names) < other and not far)
                        self.assertIs(shows_drawn(house, tree, box, kind, other, (names, parts)), so)

    def test_rows_of_other_parts(self):
        dice = random.Random(225)
        for house in samples.some_houses(dice, (1, 2, 3, 6, 13)):
            tree = samples.any_tree(dice, house)
            others = samples.all_parts(tree, house[0], ("in", "far"))
            for box, kind, k, (names, parts) in asked(dice, house, tree, 1):
                for each in range(10):
                    at = dice.randrange(len(parts))
                    other = dice.choice(others)
                    kept = parts[at][:1] + other[1:]
                    within = (parts[at][0] + (dice.choice((0, 1)),),) + parts[at][1:]
                    for row in (
                        parts[:at] + parts[at + 1:], parts + parts[at:at + 1], parts + (other,), parts + (within,),
                        parts[:at] + (other,) + parts[at + 1:], parts[:at] + (kept,) + parts[at + 1:],
                        parts[:at] + (within,) + parts[at + 1:],
                    ):
                        told = shows_drawn(house, tree, box, kind, k, (names, row))
                        self.assertIs(told, is_paper(house, tree, box, kind, k, names, row), (house, box, names, row))

    def test_what_is_shown_are_the_nearest_and_the_best_ones(self):
        dice = random.Random(226)
        shown = 0
        for house in samples.some_houses(dice, (1, 2, 3)):
            tree = samples.any_tree(dice, house)
            paths = samples.paths_within(tree)
            for box in samples.asked_boxes(dice, house, 3):
                plain = plain_box(box)
                for ask in samples.drawn_asks(dice, house, box):
                    for each in range(10):
                        parts = []
                        for path in dice.sample(paths, dice.randint(1, min(3, len(paths)))):
                            ways = samples.ways_out(samples.at_path(tree, path)[1], plain)
                            choices = [("in",), ("far",)] + [("out",) + way for way in ways]
                            parts.append((path,) + dice.choice(choices))
                        names = tuple(samples.at_path(tree, part[0])[0][0] for part in parts if part[1] == "in")
                        if shows_drawn(house, tree, box, samples.kind_of(ask), ask[-1], (names, tuple(parts))):
                            self.assertEqual(names, answer(house, ask))
                            shown += 1
        self.assertGreater(shown, 100)

    def test_one_part_otherwise(self):
        dice = random.Random(227)
        for house in samples.some_houses(dice, (1, 3, 6), (1, 2)):
            tree = turns(house)
            for box, kind, k, paper in asked(dice, house, tree, 1, 2):
                for other in samples.spoiled(paper):
                    if not samples.is_like(other, paper):
                        self.assertIs(shows_drawn(house, tree, box, kind, k, other), False)

    def test_things_of_any_kind(self):
        dice = random.Random(228)
        for d in range(1, 5):
            house = samples.made_house(dice, d, 4)
            tree = turns(house)
            for kind, k in ((("best",), 0), (("near", (0,) * d), 2)):
                names, parts = drawn_paper(house, tree, samples.whole(d), kind, k)
                for thing in samples.odd_things():
                    for within in (thing, (thing,), (thing, thing), (names, (thing,)), (names, parts + (thing,)),
                                   (names + (thing,), parts), (names, parts, thing), (names, ((thing, "far"),)),
                                   (names, (((), thing),)), (names, (((thing,), "far"),)), (names, (((), "far", thing),))):
                        so = samples.is_like(within, ((), (((), "far"),))) and k == 0
                        self.assertIs(shows_drawn(house, tree, samples.whole(d), kind, k, within), so)
                    so = samples.is_like(thing, names)
                    self.assertIs(shows_drawn(house, tree, samples.whole(d), kind, k, (thing, parts)), so)
                    self.assertIs(shows_drawn(house, tree, samples.whole(d), kind, k, (names, thing)), False)

    def test_a_thing_that_holds_itself_over_and_over(self):
        house = samples.made_house(random.Random(229), 2, 4)
        for make in (lambda part: (part, part), lambda part: (part,) * 50, lambda part: ((part, "far"), (part, "in"))):
            thing = ()
            for depth in range(20):
                thing = make(thing)
            self.assertIs(shows_drawn(house, turns(house), samples.whole(2), ("best",), 2, thing), False)

    def test_as_deep_as_there_are_things(self):
        dice = random.Random(230)
        house = samples.made_house(dice, 2, 300, range(-50, 51))
        for tree in (samples.thin_tree(house), samples.thin_tree(house, high=True)):
            for box in samples.asked_boxes(dice, house, 1):
                for kind, k in ((("best",), 5), (("near", (0, 0)), 400)):
                    names, parts = drawn_paper(house, tree, box, kind, k)
                    self.assertIs(shows_drawn(house, tree, box, kind, k, (names, parts)), True)
                    self.assertIs(shows_drawn(house, tree, box, kind, k, (names, parts[:-1])), False)
                    further = samples.parted_further(dice, tree, parts, plain_box(box), 1)
                    self.assertIs(shows_drawn(house, tree, box, kind, k, (names, further)), True)

    def test_what_is_handed_in_stays_and_asked_again_the_same_is_told(self):
        dice = random.Random(231)
        for house in samples.some_houses(dice, (1, 9)):
            tree = turns(house)
            for box, kind, k, paper in asked(dice, house, tree, 1):
                before = copy.deepcopy((house, tree, box, kind, paper))
                for each in range(2):
                    self.assertIs(shows_drawn(house=house, tree=tree, box=box, kind=kind, k=k, thing=paper), True)
                    self.assertIs(shows_drawn(house, tree, box, kind, k, list(paper)), False)
                self.assertTrue(samples.is_like((house, tree, box, kind, paper), before))


if __name__ == "__main__":
    unittest.main()
