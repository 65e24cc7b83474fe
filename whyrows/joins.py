"""The instances of a rule in some tables (point 19).

The atoms of a body are joined one behind the other. The rows of an atom's table that its terms match are put together
by the values of the variables that the atoms ahead bind, so that none is looked at that could not be joined on.
"""

from whyrows.matching import holds, matched, put_in
from whyrows.rules import are_known, variables_in


def rows_by_shared(terms, rows, shared):
    by_shared = {}
    for row in rows:
        bound = matched(terms, row, {})
        if bound is not None:
            by_shared.setdefault(put_in(shared, bound), []).append((row, bound))
    return by_shared


def choices_due(choices, ahead, known):
    # As early as can be: what a choice shuts out is not joined on.
    return [choice for choice in choices if are_known(choice[1:], known) and not are_known(choice[1:], ahead)]


def all_hold(choices, binding):
    return all([holds(choice, binding) for choice in choices])


class Step:
    def __init__(self, atom, tables, ahead, choices):
        variables = variables_in(atom[1])
        self.shared = tuple([variable for variable in variables if variable in ahead])
        self.by_shared = rows_by_shared(atom[1], tables.get(atom[0], []), self.shared)
        self.due = choices_due(choices, ahead, ahead + variables)

    def joined_on(self, used, binding):
        longer = []
        for row, bound in self.by_shared.get(put_in(self.shared, binding), []):
            together = dict(binding)
            together.update(bound)
            if all_hold(self.due, together):
                longer.append((used + (row,), together))
        return longer


def steps_of(body, choices, tables):
    steps = []
    known = []
    for atom in body:
        steps.append(Step(atom, tables, known, choices))
        known = known + variables_in(atom[1])
    return steps


# One by one, since there may be far more instances than a run that is given up should wait for.
class Walk:
    def __init__(self, rule, tables):
        self.head_terms = rule[0][1]
        self.steps = steps_of(rule[1], rule[2], tables)
        # The earliest one lies on top. Choices without variables are due ahead of all steps.
        unbound = [choice for choice in rule[2] if are_known(choice[1:], [])]
        self.begun = [((), {})] if all_hold(unbound, {}) else []

    def following(self):
        while len(self.begun) > 0:
            top = self.begun.pop()
            used = top[0]
            if len(used) == len(self.steps):
                return (put_in(self.head_terms, top[1]), used)
            longer = self.steps[len(used)].joined_on(used, top[1])
            longer.reverse()
            self.begun.extend(longer)
        return None


def instances(rule, tables):
    walk = Walk(rule, tables)
    found = []
    instance = walk.following()
    while instance is not None:
        found.append(instance)
        instance = walk.following()
    return found
