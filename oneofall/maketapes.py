"""Stage 4: programs of rows made programs of tapes."""

from oneofall.machines import Numbers
from oneofall.tapes import BLANK


def row_image(stand, k=0):
    row = stand[1]
    if row == "":
        return (stand[0], BLANK * k, BLANK, "")
    behind = BLANK if k > 0 else ""
    return (stand[0], BLANK * k, row[0], row[1:] + behind)


def row_told(top, stand):
    row = (stand[2] + stand[3]).rstrip(BLANK)
    if stand[0] > top or BLANK in row:
        return None
    return (stand[0], row)


def make_tape(rules, signs, top):
    # A step of the rows: the front sign is wiped out, the head goes right to the
    # row's end, writes the word, and comes back to the blank that it left in front.
    numbers = Numbers(top + 1)
    made = []
    walks = {}
    for rule in rules:
        walks[(rule[2], rule[3])] = True
        made.append((rule[0], rule[1], BLANK, "r", grow_state(numbers, rule[2], rule[3])))
    for walk in walks:
        state = grow_state(numbers, walk[0], walk[1])
        made.extend(passing_rules(state, signs, "r"))
    grows = words_left(walks)
    for grow in grows:
        made.append(growing_rule(numbers, grow[0], grow[1]))
    for target in targets_of(walks):
        state = back_state(numbers, target)
        made.extend(passing_rules(state, signs, "l"))
        made.append((state, BLANK, BLANK, "r", target))
    return made


def grow_state(numbers, word, target):
    return numbers.number(("grow", word, target))


def back_state(numbers, target):
    return numbers.number(("back", target))


def passing_rules(state, signs, move):
    return [(state, sign, sign, move, state) for sign in signs]


def words_left(walks):
    """All that may be left of the words to be written, the words themselves too, each with its target."""
    grows = {}
    for walk in walks:
        for cut in range(len(walk[0]) + 1):
            grows[(walk[0][cut:], walk[1])] = True
    return grows


def growing_rule(numbers, word, target):
    state = grow_state(numbers, word, target)
    if word == "":
        return (state, BLANK, BLANK, "l", back_state(numbers, target))
    return (state, BLANK, word[0], "r", grow_state(numbers, word[1:], target))


def targets_of(walks):
    targets = {}
    for walk in walks:
        targets[walk[1]] = True
    return targets
