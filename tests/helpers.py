"""What several of the test files need."""

import contextlib
import copy
import signal


def nested(depth, wrap):
    """A thing built of `wrap`, `depth` deep."""
    thing = wrap(())
    for step in range(depth - 1):
        thing = wrap((thing,))
    return thing


# Things of every kind that "any thing" may be, none of them a word, a variable, a whole number, a row or a why.
ODD_THINGS = [
    None, True, False, "", " ", "a b", "1", "-1", "aB", "AB", "[]", "()", "x" * 13, "X" * 13, "a" * 3000,
    [None], [True], [0], ["a"], [[]], [()], [[], []], [("a",)], [["a", 1]], [("a", 1)], [(("a",), 0)],
    (None,), (True,), ([],), ((),), ((), ()), ((), 1), (("a",), 1), ("A",), ("",), ("a", None), (1, (2,)),
    nested(8, list), nested(8, tuple),
]

SIXTY_FIGURES = 10 ** 60 - 1
FOUR_HUNDRED_FIGURES = 10 ** 400 - 1


def singles(many):
    """So many facts, each of a row of its own."""
    return [("n" + str(number), "p", (number,)) for number in range(many)]


def alike(many, table="p", sign="n"):
    """So many facts of one row."""
    return [(sign + str(number), table, ()) for number in range(many)]


def kept_in(thing):
    """Every list and dict in a thing, itself among them, each as often as it stands there."""
    found = []
    if isinstance(thing, (list, dict)):
        found.append(thing)
    if isinstance(thing, (list, tuple)):
        parts = thing
    else:
        parts = list(thing.values()) if isinstance(thing, dict) else []
    for part in parts:
        found.extend(kept_in(part))
    return found


def spoil(thing):
    """Changes every list and dict in a thing."""
    for kept in kept_in(thing):
        if isinstance(kept, dict):
            kept.clear()
            kept["spoilt"] = "spoilt"
        else:
            kept.append("spoilt")
            kept.reverse()


@contextlib.contextmanager
def within(seconds):
    """Fails where what stands in it takes longer: so a test that would wait for ever ends, too."""
    def too_long(number, frame):
        raise AssertionError("this takes longer than " + str(seconds) + " seconds")

    before = signal.signal(signal.SIGALRM, too_long)
    signal.alarm(seconds)
    try:
        yield
    finally:
        signal.alarm(0)
        signal.signal(signal.SIGALRM, before)


class HandedOver:
    """For test cases: asks that a call leaves what is handed in, and hands its answer over for good."""

    def assert_own_answer(self, call, make_arguments, expected):
        """`make_arguments` makes the same arguments anew each time, so that what one call got can be spoilt."""
        expected = copy.deepcopy(expected)
        arguments = make_arguments()
        answer = call(*arguments)
        self.assertEqual(answer, expected)
        self.assertEqual(arguments, make_arguments(), "what is handed in is changed")
        places = [id(kept) for kept in kept_in(answer)]
        self.assertEqual(len(set(places)), len(places), "a list stands at two places of what is told")
        self.assertEqual(set(places) & {id(kept) for kept in kept_in(arguments)}, set(), "what is handed in is told")
        spoil(answer)
        self.assertEqual(arguments, make_arguments(), "the answer is not the asker's own")
        self.assertEqual(call(*arguments), expected, "a change of the answer changed a later one")
        kept = call(*arguments)
        spoil(arguments)
        self.assertEqual(kept, expected, "a change of what was handed in changed the answer")
        self.assertEqual(call(*make_arguments()), expected, "a change of what was handed in changed a later answer")
        self.assertEqual(kept, expected, "a later answer changed an earlier one")
