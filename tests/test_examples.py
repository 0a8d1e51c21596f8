"""The examples of the document, as they stand there."""

import unittest

EXAMPLES = {
    "board_error": """
    >>> from coincounters.boards import board_error, is_board
    >>> A = (2, ((0, 1, 2, 3), (1, 0, 1, 1)))
    >>> [is_board(A), board_error((2, ((0, 0, 1, 1),))), board_error((5, ())), board_error((1, []))]
    [True, (0, 'counter'), (None, 'kinds'), (None, 'counters')]
    """,
    "changed": """
    >>> from coincounters.boards import changed
    >>> [changed((0, 1, 2, 3), 7), changed((0, 1, 5, 1), 4)]
    [9, 0]
    """,
    "with_counter": """
    >>> from coincounters.boards import with_counter, without_counter
    >>> A = (2, ((0, 1, 2, 3), (1, 0, 1, 1)))
    >>> [with_counter(A, (1, 0, 3, 4)), without_counter(A, 0)]
    [(2, ((0, 1, 2, 3), (1, 0, 1, 1), (1, 0, 3, 4))), (2, ((1, 0, 1, 1),))]
    """,
    "merged": """
    >>> from coincounters.boards import merged
    >>> B = (2, ((0, 1, 1, 2),))
    >>> [merged(B, (1, ())), merged(B, B, apart=True)]
    [(2, ((0, 1, 1, 2),)), (4, ((0, 1, 1, 2), (2, 3, 1, 2)))]
    """,
    "renamed": """
    >>> from coincounters.boards import renamed
    >>> A = (2, ((0, 1, 2, 3), (1, 0, 1, 1)))
    >>> renamed(A, (1, 0))
    (2, ((1, 0, 2, 3), (0, 1, 1, 1)))
    """,
}


def session_result(example):
    """The repr of the last expression of a session, and the line that is expected."""
    *lines, expected = [line.strip() for line in example.strip().splitlines()]
    *statements, expression = [line.removeprefix(">>> ") for line in lines]
    names = {}
    for statement in statements:
        exec(statement, names)
    return repr(eval(expression, names)), expected


class ExamplesTest(unittest.TestCase):
    def test_examples(self):
        for name, example in EXAMPLES.items():
            with self.subTest(name=name):
                result, expected = session_result(example)
                self.assertEqual(result, expected)


if __name__ == "__main__":
    unittest.main()
