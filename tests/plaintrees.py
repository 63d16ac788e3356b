"""Trees and terms for the tests, and the document's words about them played plainly."""

from oneofall.trees import joint

NAMES = ("x", "y", "zed")
IDENTITY = joint(joint("S", "K"), "K")


def tree_of(nest):
    """A tree of nested pairs."""
    if isinstance(nest, str):
        return nest
    return joint(tree_of(nest[0]), tree_of(nest[1]))


def parted(tree):
    """The nested pairs of a tree: what it is without the two further parts of its joints."""
    if isinstance(tree, str):
        return tree
    return (parted(tree[0]), parted(tree[1]))


def plain_value(nest):
    if isinstance(nest, str):
        return True
    left, right = nest
    if not plain_value(right):
        return False
    if left in ("S", "K"):
        return True
    return isinstance(left, tuple) and left[0] == "S" and plain_value(left[1])


def plain_leaves(nest):
    return 1 if isinstance(nest, str) else plain_leaves(nest[0]) + plain_leaves(nest[1])


def plain_step(nest):
    if plain_value(nest):
        return None
    left, right = nest
    if not plain_value(left):
        return (plain_step(left), right)
    if not plain_value(right):
        return (left, plain_step(right))
    if left[0] == "K":
        return left[1]
    return ((left[0][1], right), (left[1], right))


def stands_in(name, nest):
    if isinstance(nest, str):
        return nest == name
    return stands_in(name, nest[0]) or stands_in(name, nest[1])


def plain_out(name, nest):
    """A name taken out, and the cost of it."""
    if nest == name:
        return ((("S", "K"), "K"), 2)
    if plain_value(nest) and not stands_in(name, nest):
        return (("K", nest), 1)
    left, right = nest
    if right == name and plain_value(left) and not stands_in(name, left):
        return (left, 0)
    one, other = plain_out(name, left), plain_out(name, right)
    return ((("S", one[0]), other[0]), 1 + one[1] + other[1])


def plain_put(nest, puts):
    if isinstance(nest, str):
        return puts.get(nest, nest)
    return (plain_put(nest[0], puts), plain_put(nest[1], puts))


def any_nest(chance, leaves, signs="SK"):
    if leaves == 1:
        return chance.choice(signs)
    cut = chance.randrange(1, leaves)
    return (any_nest(chance, cut, signs), any_nest(chance, leaves - cut, signs))


def any_value(chance, leaves):
    """A value of at most so many leaves."""
    if leaves < 3:
        return chance.choice("SK")
    form = chance.randrange(4)
    if form == 0:
        return chance.choice("SK")
    if form < 3:
        return ("KS"[form - 1], any_value(chance, leaves - 1))
    cut = chance.randrange(1, leaves - 1)
    return (("S", any_value(chance, cut)), any_value(chance, leaves - 1 - cut))


def all_nests(leaves, signs="SK"):
    if leaves == 1:
        return list(signs)
    nests = []
    for cut in range(1, leaves):
        lefts, rights = all_nests(cut, signs), all_nests(leaves - cut, signs)
        nests.extend((left, right) for left in lefts for right in rights)
    return nests


def depth(tree):
    """The greatest number of joints above a leaf, of a tree in which no parts are shared."""
    deepest = 0
    waiting = [(tree, 0)]
    while waiting:
        part, above = waiting.pop()
        deepest = max(deepest, above)
        if not isinstance(part, str):
            waiting.extend([(part[0], above + 1), (part[1], above + 1)])
    return deepest
