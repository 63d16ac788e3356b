"""Trees in which one leaf or one part is put otherwise."""

from oneofall.trees import joint


def ways_to_parts(tree):
    """For each part the way to it from the top, a tuple of 0 (left) and 1 (right)."""
    waiting = [(tree, ())]
    while waiting:
        part, way = waiting.pop()
        yield way, part
        if not isinstance(part, str):
            waiting.extend([(part[0], way + (0,)), (part[1], way + (1,))])


def with_part(tree, way, part):
    above = []
    for turn in way:
        above.append(tree)
        tree = tree[turn]
    for turn, whole in zip(reversed(way), reversed(above)):
        part = joint(part, whole[1]) if turn == 0 else joint(whole[0], part)
    return part


def leaves_put_otherwise(tree):
    """All trees that have S in the place of one K, or K in the place of one S, of the tree."""
    for way, part in ways_to_parts(tree):
        if isinstance(part, str):
            yield with_part(tree, way, "S" if part == "K" else "K")


def parts_put_otherwise(tree, others):
    """All trees that have one of the others in the place of one part of the tree."""
    for way, part in ways_to_parts(tree):
        for other in others:
            if other != part:
                yield with_part(tree, way, other)
