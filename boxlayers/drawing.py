"""Names drawn from a tree by keys: the nearest ones, the best ones."""

from boxlayers.boxes import lie_apart, plain_box
from boxlayers.houses import things_by_name


def steps_to(place, limits):
    """The steps from place to the nearest place of the bounds."""
    return sum([max(least - number, 0, number - greatest) for number, (least, greatest) in zip(place, limits)])


def key_by(by_name, tree, kind):
    """The key of tree, by_name having the thing of each of its names."""
    names, limits, low, high = tree
    if kind[0] == "near":
        return (steps_to(kind[1], limits), names[0])
    return (-max([by_name[name][2] for name in names]), names[0])


def key_of(house, tree, kind):
    """(far, name): no thing of tree is less far than that, and none has a lesser name."""
    return key_by(things_by_name(house), tree, kind)


def keyed(by_name, trees, plain, kind):
    """Those of the trees, each under its key, whose bounds don't lie apart from the plain box."""
    return {key_by(by_name, tree, kind): tree for tree in trees if not lie_apart(tree[1], plain)}


def drawn_past(gone, house, tree, box, kind, k):
    """As drawn, but names that are keys of gone are neither told nor counted."""
    by_name = things_by_name(house)
    plain = plain_box(box)
    names = []
    looks = 0
    # No name is in two trees that wait, so that no two of them have the same key.
    waiting = keyed(by_name, [] if tree is None or k == 0 else [tree], plain, kind)
    while len(waiting) > 0 and len(names) < k:
        part_names, limits, low, high = waiting.pop(min(list(waiting)))
        looks += 1
        if len(part_names) > 1:
            waiting.update(keyed(by_name, [low, high], plain, kind))
        elif part_names[0] not in gone:
            names.append(part_names[0])
    return (tuple(names), looks, tuple([waiting[key][0] for key in sorted(list(waiting))]))


def drawn(house, tree, box, kind, k):
    """(names, looks, waiting): up to k names by rising keys, the looks, and the names of each that waits at the end."""
    return drawn_past({}, house, tree, box, kind, k)
