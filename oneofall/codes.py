"""Stage 7: picks, lists, packs and ends as trees, and what is read back of them."""

from oneofall.names import out_cost, taken_out
from oneofall.trees import IDENTITY, is_value, joint

NO_THINGS = "K"


def pick(k, many):
    return unasked(k, taken_out("x", unasked(many - 1 - k, "x")))


def pick_cost(k, many):
    """In how many steps a pick, handed many values, comes to the k-th."""
    return many - 1 + out_cost("x", unasked(many - 1 - k, "x"))


def unasked(times, value):
    """What is made of so many names that do not stand in the value, and the value."""
    whole = value
    for turn in range(times):
        whole = joint("K", whole)
    return whole


def list_of(things):
    whole = NO_THINGS
    for thing in reversed(things):
        whole = list_with(thing, whole)
    return whole


def list_with(first, others):
    # The name n, which is taken out last, does not stand in it.
    return unasked(1, holder([first, others]))


def pack(one, two, three):
    return holder([one, two, three])


def end_of(one, two, three, four):
    return holder([one, two, three, four])


def holder(things):
    """What is made of p and p with the things handed: it hands its things to whatever it is handed."""
    # Taking p out of the whole would walk through things that may be of any size.
    whole = IDENTITY
    for thing in things:
        whole = joint(joint("S", whole), kept(thing))
    return whole


def kept(thing):
    if is_value(thing):
        return joint("K", thing)
    return taken_out("p", thing)


def holder_cost(many):
    """In how many steps a holder of so many things hands them on."""
    return 2 + 2 * many


def held(tree, many):
    """The things of a holder of so many values, or None of what is none."""
    things = []
    rest = tree
    while len(things) < many:
        if not has_held_form(rest):
            return None
        things.append(rest[1][1])
        rest = rest[0][1]
    if rest != IDENTITY or not is_value(tree):
        return None
    things.reverse()
    return things


def has_held_form(tree):
    return not isinstance(tree, str) and has_in_front("S", tree[0]) and has_in_front("K", tree[1])


def has_in_front(leaf, tree):
    return not isinstance(tree, str) and tree[0] == leaf


def things_of(tree):
    things = []
    rest = tree
    while rest != NO_THINGS:
        parts = held(rest[1], 2) if has_in_front("K", rest) else None
        if parts is None:
            return None
        things.append(parts[0])
        rest = parts[1]
    return things


def picked(tree, many):
    # A pick has as many K in front as there are names ahead of the one picked.
    k = 0
    rest = tree
    while has_in_front("K", rest):
        k = k + 1
        rest = rest[1]
    if k < many and tree == pick(k, many):
        return k
    return None
