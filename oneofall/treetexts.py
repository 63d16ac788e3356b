"""Stage 5: the texts of trees."""

from oneofall.errors import NoTree
from oneofall.trees import joint

MOST_BRACKETS = 300


def tree_read(text):
    # One list of parts for each bracket that is open, and beneath them one for the whole.
    opened = [[]]
    for at, sign in enumerate(text):
        if not may_stand(sign, opened):
            raise NoTree(at)
        if sign == "(":
            opened.append([])
        elif sign == ")":
            parts = opened.pop()
            opened[-1].append(joint(parts[0], parts[1]))
        else:
            opened[-1].append(sign)
    if opened[0] == []:
        raise NoTree(len(text))
    return opened[0][0]


def may_stand(sign, opened):
    parts = opened[-1]
    if len(opened) == 1 and len(parts) == 1:
        return False
    if len(parts) == 2:
        return sign == ")"
    if sign == "(":
        return len(opened) <= MOST_BRACKETS
    return sign == "S" or sign == "K"


def tree_show(tree):
    pieces = []
    waiting = [tree]
    while waiting:
        part = waiting.pop()
        if isinstance(part, str):
            pieces.append(part)
        else:
            pieces.append("(")
            # The closing bracket waits like a leaf, behind both parts.
            waiting.extend([")", part[1], part[0]])
    return "".join(pieces)
