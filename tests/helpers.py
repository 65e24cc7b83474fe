"""What several of the test files need."""


def nested(depth, wrap):
    """A thing built of `wrap`, `depth` deep."""
    thing = wrap(())
    for step in range(depth - 1):
        thing = wrap((thing,))
    return thing


# Things of every kind that "any thing" may be, none of them a word, a variable, a whole number, a row or a why.
ODD_THINGS = [
    None, True, False, "", " ", "a b", "1", "-1", "aB", "AB", "[]", "()", "x" * 13, "X" * 13, "a" * 3000,
    [None], [True], [0], ["a"], [[]], [()], [[], []], [("a",)], [["a", 1]], [("a", 1)], [(("a",), 0)],
    (None,), (True,), ([],), ((),), ((), ()), ((), 1), (("a",), 1), ("A",), ("",), ("a", None), (1, (2,)),
    nested(8, list), nested(8, tuple),
]

SIXTY_FIGURES = 10 ** 60 - 1


class HandedOver:
    """For test cases: asks that a call leaves what is handed in, and hands its answer over for good."""

    def assert_own_answer(self, call, make_arguments, expected):
        """`make_arguments` makes the same arguments anew each time, so that what one call got can be spoilt."""
        arguments = make_arguments()
        answer = call(*arguments)
        self.assertEqual(answer, expected)
        self.assertEqual(arguments, make_arguments(), "what is handed in is changed")
        for argument in arguments:
            self.assertIsNot(answer, argument)
        if isinstance(answer, list):
            answer.append("spoilt")
            answer.reverse()
            self.assertEqual(arguments, make_arguments(), "the answer is not the asker's own")
        self.assertEqual(call(*arguments), expected, "a change of the answer changed a later one")
        kept = call(*arguments)
        for argument in arguments:
            if isinstance(argument, list):
                argument.append("spoilt")
                argument.reverse()
        self.assertEqual(kept, expected, "a change of what was handed in changed the answer")
        self.assertEqual(call(*make_arguments()), expected, "a change of what was handed in changed a later answer")
