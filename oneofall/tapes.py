"""Stage 4: programs of tapes with a head."""

from oneofall.machines import look_at_rules, rule_table, stands_from

BLANK = "_"


def tape_look(rules):
    return look_at_rules(rules)


def tape_step(rules, stand):
    return moved_by_table(rule_table(rules), stand)


def tape_run(rules, stand, most=100):
    table = rule_table(rules)
    return stands_from(lambda here: moved_by_table(table, here), stand, most)


def moved_by_table(table, stand):
    rule = table.get((stand[0], stand[2]))
    if rule is None:
        return None
    left = stand[1]
    right = stand[3]
    if rule[3] == "l":
        return (rule[4], left[:-1], left[-1:] or BLANK, rule[2] + right)
    return (rule[4], left + rule[2], right[:1] or BLANK, right[1:])
