"""Stage 6: terms, and names taken out of them."""

from oneofall.trees import IDENTITY, folded, is_value, joint


def put_in(term, puts):
    return folded(
        term,
        lambda leaf: puts.get(leaf, leaf),
        lambda part, left, right: joint(left, right),
    )


def taken_out(name, term):
    return out_and_cost(name, term)[0]


def out_cost(name, term):
    return out_and_cost(name, term)[1]


def made_of(names, term):
    return made_and_costs(names, term)[0]


def made_costs(names, term):
    return made_and_costs(names, term)[1]


def handed(tree, things):
    whole = tree
    for thing in things:
        whole = joint(whole, thing)
    return whole


def made_and_costs(names, term):
    whole = term
    costs = []
    for name in reversed(names):
        taken = out_and_cost(name, whole)
        whole = taken[0]
        costs.append(taken[1])
    costs.reverse()
    return (whole, costs)


def out_and_cost(name, term):
    # Taken, a part is a tuple (term, cost); or None where it is a value in which the
    # name does not stand, so that nothing is built for it unless a joint needs it.
    taken = folded(
        term,
        lambda leaf: leaf_taken(name, leaf),
        lambda part, left, right: joint_taken(name, part, left, right),
    )
    return or_constant(taken, term)


def leaf_taken(name, leaf):
    if leaf == name:
        return (IDENTITY, 2)
    return None


def joint_taken(name, part, left, right):
    if left is None and right is None and is_value(part):
        return None
    if left is None and part[1] == name:
        return (part[0], 0)
    one = or_constant(left, part[0])
    other = or_constant(right, part[1])
    return (joint(joint("S", one[0]), other[0]), 1 + one[1] + other[1])


def or_constant(taken, part):
    if taken is None:
        return (joint("K", part), 1)
    return taken
