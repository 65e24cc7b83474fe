"""The instances of a rule in some tables (point 19), and the steps by which a body is joined.

The atoms of a body are joined one behind the other. The rows of an atom's table that its terms match are put together
by the values of the variables that are known ahead of it, so that none is looked at that could not be joined on.
"""

from whyrows.matching import holds, matched, put_in
from whyrows.rules import are_known, variables_in, variables_of_body


def rows_by_shared(terms, rows, shared):
    by_shared = {}
    for row in rows:
        bound = matched(terms, row, {})
        if bound is not None:
            by_shared.setdefault(put_in(shared, bound), []).append((row, bound))
    return by_shared


def choices_known(choices, known):
    return [choice for choice in choices if are_known(choice[1:], known)]


def choices_due(choices, ahead, known):
    # As early as can be: what a choice shuts out is not joined on.
    return [choice for choice in choices_known(choices, known) if not are_known(choice[1:], ahead)]


def all_hold(choices, binding):
    return all([holds(choice, binding) for choice in choices])


def asked_later(rule, place, known, wanted):
    # What comes of this place and those behind it hangs on these variables alone, however many more are bound.
    later = wanted + variables_of_body(rule[1][place:])
    for choice in rule[2]:
        if not are_known(choice[1:], known):
            later = later + variables_in(choice[1:])
    return tuple([variable for variable in sorted(set(known)) if variable in later])


class Step:
    def __init__(self, rule, place, tables, known, wanted):
        atom = rule[1][place]
        variables = variables_in(atom[1])
        self.table = atom[0]
        self.terms = atom[1]
        self.rows = tables.get(atom[0], [])
        self.shared = tuple([variable for variable in variables if variable in known])
        self.by_shared = None
        self.due = choices_due(rule[2], known, known + variables)
        self.asks = asked_later(rule, place, known, wanted)

    def joined_on(self, binding):
        # Not sooner, since many a step is never come to.
        if self.by_shared is None:
            self.by_shared = rows_by_shared(self.terms, self.rows, self.shared)
        longer = []
        for row, bound in self.by_shared.get(put_in(self.shared, binding), []):
            together = dict(binding)
            together.update(bound)
            if all_hold(self.due, together):
                longer.append((row, together))
        return longer


def steps_of(rule, tables, known, wanted):
    # Known are the variables that are bound ahead of the first step, wanted those that are asked of the last.
    steps = []
    ahead = known
    for place, atom in enumerate(rule[1]):
        steps.append(Step(rule, place, tables, ahead, wanted))
        ahead = ahead + variables_in(atom[1])
    return steps


def instances(rule, tables):
    # Choices without variables are due ahead of all steps.
    found = [((), {})] if all_hold(choices_known(rule[2], []), {}) else []
    for step in steps_of(rule, tables, [], []):
        longer = []
        for used, binding in found:
            longer.extend([(used + (row,), together) for row, together in step.joined_on(binding)])
        found = longer
    return [(put_in(rule[0][1], binding), used) for used, binding in found]
