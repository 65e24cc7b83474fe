"""What facts, atoms and rules are, and how they are vetted ahead of a run (points 16 and 20)."""

from whyrows.errors import NoFact, NoName, NoRounds, NoRule
from whyrows.words import MOST_VALUES, is_row, is_value, is_var, is_whole, is_word

SIGNS = ("=", "!=", "<")
MOST_ATOMS = 3
MOST_CHOICES = 3
MOST_ROUNDS = 5


def is_tuple_of_up_to(thing, most):
    return isinstance(thing, tuple) and len(thing) <= most


def is_tuple_of_just(thing, many):
    return isinstance(thing, tuple) and len(thing) == many


def is_fact(thing):
    if not is_tuple_of_just(thing, 3):
        return False
    return is_word(thing[0]) and is_word(thing[1]) and is_row(thing[2])


def is_term(thing):
    return is_value(thing) or is_var(thing)


def are_terms(thing):
    return is_tuple_of_up_to(thing, MOST_VALUES) and all([is_term(part) for part in thing])


def is_atom(thing):
    return is_tuple_of_just(thing, 2) and is_word(thing[0]) and are_terms(thing[1])


def are_atoms(thing):
    return is_tuple_of_up_to(thing, MOST_ATOMS) and all([is_atom(part) for part in thing])


def is_choice(thing):
    return is_tuple_of_just(thing, 3) and thing[0] in SIGNS and is_term(thing[1]) and is_term(thing[2])


def are_choices(thing):
    return is_tuple_of_up_to(thing, MOST_CHOICES) and all([is_choice(part) for part in thing])


def variables_in(terms):
    return [term for term in terms if is_var(term)]


def variables_of_body(body):
    found = []
    for table, terms in body:
        found.extend(variables_in(terms))
    return found


def are_known(terms, known):
    return all([variable in known for variable in variables_in(terms)])


def is_rule(thing):
    if not is_tuple_of_just(thing, 3):
        return False
    if not is_atom(thing[0]) or not are_atoms(thing[1]) or not are_choices(thing[2]):
        return False
    known = variables_of_body(thing[1])
    return are_known(thing[0][1], known) and all([are_known(choice[1:], known) for choice in thing[2]])


def each_once(rules):
    return list(dict([(rule, True) for rule in rules]))


def vet_facts(facts):
    taken = {}
    for fact in facts:
        if not is_fact(fact):
            raise NoFact("what is no fact stands among the facts")
        name = fact[0]
        if name in taken:
            raise NoName(f"two facts have the name {name}")
        taken[name] = True


def vet(facts, rules, rounds):
    vet_facts(facts)
    if not all([is_rule(rule) for rule in rules]):
        raise NoRule("what is no rule stands among the rules")
    if not is_whole(rounds) or not 0 <= rounds <= MOST_ROUNDS:
        raise NoRounds("the rounds are no whole number from 0 to 5")
    return True
