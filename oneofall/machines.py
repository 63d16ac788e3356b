"""What several sorts of machines share: runs, and rules by state and sign."""

from oneofall.errors import NoProgram


def stands_from(step, stand, most):
    stands = [stand]
    while len(stands) <= most:
        behind = step(stands[-1])
        if behind is None:
            return stands
        stands.append(behind)
    return stands


def look_at_rules(rules):
    seen = {}
    for at, rule in enumerate(rules):
        key = (rule[0], rule[1])
        if key in seen:
            raise NoProgram(at)
        seen[key] = True
    return True


def rule_table(rules):
    # A long run would be slow if each step went through all rules.
    table = {}
    for rule in rules:
        table.setdefault((rule[0], rule[1]), rule)
    return table


class Numbers:
    """Numbers for the states that a maker makes up: from the first on, one for each key, without gaps."""

    def __init__(self, first):
        self.first = first
        self.given = {}

    def number(self, key):
        if key not in self.given:
            self.given[key] = self.first + len(self.given)
        return self.given[key]
