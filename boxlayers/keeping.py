"""Kept houses: things that come and go, in parts that are made anew."""

from boxlayers.answers import answer_of
from boxlayers.drawing import drawn_past
from boxlayers.errors import NoThing, Taken
from boxlayers.houses import things_by_name
from boxlayers.turnasks import kind_of, taken_by_turns
from boxlayers.turns import turns


def rank_for(many):
    """The least rank r for which 2 ** r is no less than many, which is 1 or more."""
    return (many - 1).bit_length()


def most_made(comings, goings):
    """How many names at most stand in parts that are put in by so many comings and goings."""
    greatest = 0 if comings == 0 else comings.bit_length() - 1
    return (comings + goings) * (1 + greatest)


class Part:
    """Things that were put together, with their tree, some of them gone."""

    def __init__(self, d, things):
        self.things = things
        # A name that went may come anew elsewhere, so each part holds its things as they came.
        self.held = (d, tuple(sorted(things)))
        self.tree = turns(self.held)
        self.gone = {}

    def left(self):
        """The things that aren't gone, in order."""
        return [thing for thing in self.things if thing[0] not in self.gone]

    def told(self, rank):
        """(rank, names, gone)."""
        names = [thing[0] for thing in self.things]
        return (rank, tuple(names), tuple([name in self.gone for name in names]))

    def names_for(self, ask):
        """(names, looks): among the names are all that an ask has of this part, gone ones perhaps, too."""
        if ask[0] in ("near", "best"):
            names, looks, waiting = drawn_past(self.gone, self.held, self.tree, ask[1], kind_of(ask), ask[-1])
            return (names, looks)
        taken, looks = taken_by_turns(self.held, self.tree, ask[1])
        return ([name for names in taken for name in names], looks)

    def things_for(self, ask):
        """(things, looks): those that aren't gone of what an ask has of this part."""
        names, looks = self.names_for(ask)
        by_name = things_by_name(self.held)
        return ([by_name[name] for name in names if name not in self.gone], looks)


class Kept:
    """A house whose things come and go."""

    def __init__(self, d):
        self.d = d
        self.by_rank = {}
        # Of each thing that is there, the rank of the part in which it is not gone.
        self.rank_of = {}
        self.so_many_made = 0

    def put_in(self, rank, things):
        """The things as a part of that rank, with what is left of the parts that it meets."""
        while rank in self.by_rank:
            things = self.by_rank.pop(rank).left() + things
            rank += 1
        self.by_rank[rank] = Part(self.d, things)
        self.so_many_made += len(things)
        for thing in things:
            self.rank_of[thing[0]] = rank

    def come(self, thing):
        """The thing is there from now on; refused with Taken where one of its name is there."""
        if thing[0] in self.rank_of:
            raise Taken("a thing of this name is there")
        self.put_in(0, [thing])

    def go(self, name):
        """The thing is gone from now on; refused with NoThing where none of this name is there."""
        if name not in self.rank_of:
            raise NoThing("no thing of this name is there")
        rank = self.rank_of.pop(name)
        part = self.by_rank[rank]
        part.gone[name] = True
        if 2 * len(part.gone) > len(part.things):
            self.make_anew(rank)

    def make_anew(self, rank):
        """What is left of the part of that rank, if anything is, put in of the least rank that holds it."""
        things = self.by_rank.pop(rank).left()
        if len(things) > 0:
            self.put_in(rank_for(len(things)), things)

    def house(self):
        """The house of the things that are there."""
        return (self.d, tuple(sorted([thing for rank in list(self.by_rank) for thing in self.by_rank[rank].left()])))

    def ranks(self):
        """The ranks of the parts, falling."""
        return sorted(list(self.by_rank), reverse=True)

    def parts(self):
        """(rank, names, gone) of each part, the greatest rank first."""
        return tuple([self.by_rank[rank].told(rank) for rank in self.ranks()])

    def made(self):
        """How many names stood in parts, all together, each time one was put in to stay."""
        return self.so_many_made

    def ask(self, ask):
        """(answer, looks) of an ask, of the things that are there."""
        things = []
        looks = 0
        for rank in self.ranks():
            more, more_looks = self.by_rank[rank].things_for(ask)
            things += more
            looks += more_looks
        return (answer_of(things, ask), looks)
