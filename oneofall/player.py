"""Stage 8: the texts of trees as trees, and the tree that plays them."""

from oneofall.codes import has_in_front, holder, pick
from oneofall.trees import IDENTITY, folded, joint, leaves

# What a text picks of the three things that it is handed.
PICKS = 3
PICK_OF_LEAF = {"S": 0, "K": 1}
PICK_OF_JOINT = 2
COST_OF_LEAF = {"S": 16, "K": 14}
COST_OF_JOINT = 20


def text_of(tree):
    texts = leaf_texts()
    head = joint_head()
    return folded(
        tree,
        lambda leaf: texts[leaf],
        lambda part, left, right: joint_text(head, left, right),
    )


def leaf_texts():
    texts = {}
    for leaf in PICK_OF_LEAF:
        texts[leaf] = holder([pick(PICK_OF_LEAF[leaf], PICKS)])
    return texts


def joint_head():
    return holder([pick(PICK_OF_JOINT, PICKS)])


def joint_text(head, left, right):
    # The name e taken out of (a e) is a itself.
    return joint(joint("S", joint(joint("S", head), left)), right)


def text_cost(tree):
    leaf_costs = folded(
        tree,
        lambda leaf: COST_OF_LEAF[leaf],
        lambda part, left, right: left + right,
    )
    return leaf_costs + COST_OF_JOINT * (leaves(tree) - 1)


def player(one, other):
    return holder([holder([one, other, IDENTITY])])


def player_of_all():
    return player("S", "K")


def text_told(tree):
    # The leaves told, and None for each joint told, each ahead of its parts.
    order = []
    texts = leaf_texts()
    head = joint_head()
    waiting = [tree]
    while waiting:
        text = waiting.pop()
        leaf = leaf_told(texts, text)
        order.append(leaf)
        if leaf is None:
            parts = joint_parts(head, text)
            if parts is None:
                return None
            waiting.extend(parts)
    return tree_in_order(order)


def leaf_told(texts, text):
    for leaf in texts:
        if text == texts[leaf]:
            return leaf
    return None


def joint_parts(head, text):
    if isinstance(text, str) or not has_in_front("S", text[0]):
        return None
    front = text[0][1]
    if isinstance(front, str) or not has_in_front("S", front[0]) or front[0][1] != head:
        return None
    return (front[1], text[1])


def tree_in_order(order):
    told = []
    for leaf in reversed(order):
        if leaf is None:
            right = told.pop()
            left = told.pop()
            told.append(joint(left, right))
        else:
            told.append(leaf)
    return told[0]
