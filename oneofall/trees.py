"""Stage 5: trees of two kinds of leaves, their steps and runs."""

# ((S K) K): what is handed to it comes back.
IDENTITY = (("S", "K", 2, True), "K", 3, True)


def joint(left, right):
    return (left, right, leaves(left) + leaves(right), is_done(left, right))


def is_done(left, right):
    if not is_value(right):
        return False
    if isinstance(left, str):
        return left == "S" or left == "K"
    return left[0] == "S" and left[3]


def leaves(tree):
    if isinstance(tree, str):
        return 1
    return tree[2]


def is_value(tree):
    return isinstance(tree, str) or tree[3]


def tree_step(tree):
    ran = tree_run(tree, 1)
    if ran[2] == 0:
        return None
    return ran[1]


def tree_run(tree, most=1000):
    # Only the part at which the steps are done is at hand; what stands above it
    # waits in a list, so that a step costs the same in a great tree and a small one.
    here = tree
    above = []
    steps = 0
    while steps < most and (above or not is_value(here)):
        if is_value(here):
            here = joined(above.pop(), here)
        elif not is_value(here[0]):
            above.append((None, here[1]))
            here = here[0]
        elif not is_value(here[1]):
            above.append((here[0], None))
            here = here[1]
        elif isinstance(here[0], str):
            # A name in front of a value, in a term: no step is told for it.
            break
        else:
            here = changed(here[0], here[1])
            steps = steps + 1
    while above:
        here = joined(above.pop(), here)
    return ("value" if is_value(here) else "on", here, steps)


def joined(waiting, here):
    if waiting[0] is None:
        return joint(here, waiting[1])
    return joint(waiting[0], here)


def changed(left, right):
    """What a joint of two values becomes that is itself none."""
    if left[0] == "K":
        return left[1]
    return joint(joint(left[0][1], right), joint(left[1], right))


def folded(tree, of_leaf, of_joint):
    """What of_joint tells of the whole tree, from what was told of its parts and first, by of_leaf, of its leaves."""
    # No recursion: trees may be deeper than calls may safely be.
    order = []
    waiting = [tree]
    while waiting:
        part = waiting.pop()
        order.append(part)
        if not isinstance(part, str):
            waiting.append(part[0])
            waiting.append(part[1])
    told = []
    for part in reversed(order):
        if isinstance(part, str):
            told.append(of_leaf(part))
        else:
            right = told.pop()
            left = told.pop()
            told.append(of_joint(part, left, right))
    return told[0]
