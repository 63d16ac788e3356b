"""Stage 2: programs of rows of signs, eaten in front and grown at the end."""

from oneofall.machines import look_at_rules, rule_table, stands_from


def row_look(rules):
    return look_at_rules(rules)


def row_step(rules, stand):
    return step_by_table(rule_table(rules), stand)


def row_run(rules, stand, most=100):
    table = rule_table(rules)
    return stands_from(lambda here: step_by_table(table, here), stand, most)


def step_by_table(table, stand):
    row = stand[1]
    if row == "":
        return None
    rule = table.get((stand[0], row[0]))
    if rule is None:
        return None
    return (rule[3], row[1:] + rule[2])
