"""The examples of the document, as they stand there."""

import unittest

EXAMPLES = {
    "board_error": """
    >>> from coincounters.boards import board_error, is_board
    >>> A = (2, ((0, 1, 2, 3), (1, 0, 1, 1)))
    >>> [is_board(A), board_error((2, ((0, 0, 1, 1),))), board_error((5, ())), board_error((1, []))]
    [True, (0, 'counter'), (None, 'kinds'), (None, 'counters')]
    """,
    "changed": """
    >>> from coincounters.boards import changed
    >>> [changed((0, 1, 2, 3), 7), changed((0, 1, 5, 1), 4)]
    [9, 0]
    """,
    "run": """
    >>> from coincounters.routes import run
    >>> A = (2, ((0, 1, 2, 3), (1, 0, 1, 1)))
    >>> [run(A, 0, 7, (0, 1, 0)), run(A, 1, 5, ())]
    [(1, 12), (1, 5)]
    """,
    "least_start": """
    >>> from coincounters.routes import least_start
    >>> A = (2, ((0, 1, 2, 3), (1, 0, 1, 1)))
    >>> [least_start(A, 0, (0, 1, 0), 10), least_start(A, 0, (), 3), least_start(A, 0, (0,), 0)]
    [6, 3, 0]
    """,
    "comes_out": """
    >>> from coincounters.routes import comes_out
    >>> A = (2, ((0, 1, 2, 3), (1, 0, 1, 1)))
    >>> [comes_out(A, 0, (0,), 6), comes_out(A, 0, (0,), 4)]
    [True, False]
    """,
    "period_of": """
    >>> from coincounters.routes import period_of
    >>> A = (2, ((0, 1, 2, 3), (1, 0, 1, 1)))
    >>> [period_of(A, 0, (0, 1, 0)), period_of(A, 1, ())]
    [(4, 9), (1, 1)]
    """,
    "find_difference": """
    >>> from coincounters.routes import find_difference
    >>> A = (2, ((0, 1, 2, 3), (1, 0, 1, 1)))
    >>> [find_difference(A, 0, (0,), (0, 1, 0)), find_difference(A, 0, (0,), (0,))]
    [4, None]
    """,
    "amounts_within": """
    >>> from coincounters.routes import amounts_within
    >>> A = (2, ((0, 1, 2, 3), (1, 0, 1, 1)))
    >>> [amounts_within(A, 0, 4, 2), amounts_within(A, 0, 1, 6)]
    [((4, 6), (6,)), ((0, 1), (0,))]
    """,
    "best_within": """
    >>> from coincounters.best import best_within
    >>> A = (2, ((0, 1, 2, 3), (1, 0, 1, 1)))
    >>> [best_within(A, 0, 4, 1), best_within(A, 0, 4, 3), best_within(A, 1, 5, 0)]
    [(4, 6), (6, 9), (0, 5)]
    """,
    "best_from": """
    >>> from coincounters.best import best_from
    >>> A = (2, ((0, 1, 2, 3), (1, 0, 1, 1)))
    >>> G = (3, ((0, 1, 1, 1), (0, 2, 4, 5), (2, 1, 1, 1)))
    >>> [best_from(A, 0, 2), best_from(A, 0, 4), best_from(A, 0, 1), best_from(G, 0, 9), best_from(G, 1, 3)]
    [(3, 3), (None, None), (1, 0), (9, 10, 10), (0, 3, 0)]
    """,
    "least_needed": """
    >>> from coincounters.best import least_needed
    >>> A = (2, ((0, 1, 2, 3), (1, 0, 1, 1)))
    >>> G = (3, ((0, 1, 1, 1), (0, 2, 4, 5), (2, 1, 1, 1)))
    >>> [least_needed(A, 0, 1, 1000), least_needed(A, 0, 1, 3), least_needed(G, 0, 1, 10), least_needed(G, 1, 0, 1), least_needed(G, 1, 1, 7)]
    [4, 2, 8, None, 7]
    """,
    "find_certificate": """
    >>> from coincounters.best import certificate_holds, find_certificate
    >>> A = (2, ((0, 1, 2, 3), (1, 0, 1, 1)))
    >>> [find_certificate(A, 0, 2, 1, 3), certificate_holds(A, 0, 2, 1, 4, find_certificate(A, 0, 2, 1, 4)), find_certificate(A, 0, 4, 1, 1)[0]]
    [('route', (0,)), True, 'growth']
    """,
    "certificate_holds": """
    >>> from coincounters.best import certificate_holds
    >>> A = (2, ((0, 1, 2, 3), (1, 0, 1, 1)))
    >>> [certificate_holds(A, 0, 2, 1, 4, ('ceiling', (3, 3))), certificate_holds(A, 0, 2, 1, 4, ('ceiling', (2, 3))), certificate_holds(A, 0, 4, 1, 10 ** 9, ('growth', (), (0, 1), (0,)))]
    [True, False, True]
    """,
    "needed_counters": """
    >>> from coincounters.best import needed_counters
    >>> A = (2, ((0, 1, 2, 3), (1, 0, 1, 1)))
    >>> G = (3, ((0, 1, 1, 1), (0, 2, 4, 5), (2, 1, 1, 1)))
    >>> [needed_counters(A, 0, 2), needed_counters(G, 0, 9), needed_counters(G, 0, 3)]
    [(0, 1), (1, 2), (0,)]
    """,
    "is_loop": """
    >>> from coincounters.loops import is_loop
    >>> A = (2, ((0, 1, 2, 3), (1, 0, 1, 1)))
    >>> [is_loop(A, (0, 1)), is_loop(A, (0,)), is_loop(A, (1, 0, 1, 0)), is_loop(A, ())]
    [True, False, True, False]
    """,
    "turn_of": """
    >>> from coincounters.loops import turn_of
    >>> A = (2, ((0, 1, 2, 3), (1, 0, 1, 1)))
    >>> [turn_of(A, (0, 1), 5), turn_of(A, (1, 0), 5)]
    [6, 6]
    """,
    "fixed_amounts": """
    >>> from coincounters.loops import fixed_amounts
    >>> A = (2, ((0, 1, 2, 3), (1, 0, 1, 1)))
    >>> list(fixed_amounts(A, (0, 1), 100))
    [0, 3]
    """,
    "fate_of": """
    >>> from coincounters.loops import fate_of
    >>> A = (2, ((0, 1, 2, 3), (1, 0, 1, 1)))
    >>> [fate_of(A, (0, 1), 3), fate_of(A, (0, 1), 1), fate_of(A, (0, 1), 2), fate_of(A, (0, 1), 4)]
    [('stays', 3), ('falls', 0), ('rises', 3), ('grows',)]
    """,
    "growth_start": """
    >>> from coincounters.loops import greatest_fixed, growth_start
    >>> A = (2, ((0, 1, 2, 3), (1, 0, 1, 1)))
    >>> C = (2, ((0, 1, 2, 5), (1, 0, 1, 1)))
    >>> [growth_start(A, (0, 1)), greatest_fixed(A, (0, 1)), growth_start(C, (0, 1)), greatest_fixed(C, (0, 1))]
    [4, 3, 2, 0]
    """,
    "loops_at": """
    >>> from coincounters.loops import loops_at
    >>> A = (2, ((0, 1, 2, 3), (1, 0, 1, 1)))
    >>> G = (3, ((0, 1, 1, 1), (0, 2, 4, 5), (2, 1, 1, 1)))
    >>> [loops_at(A, 0), loops_at(A, 1), loops_at(G, 0)]
    [((0, 1),), ((1, 0),), ()]
    """,
    "with_counter": """
    >>> from coincounters.boards import with_counter, without_counter
    >>> A = (2, ((0, 1, 2, 3), (1, 0, 1, 1)))
    >>> [with_counter(A, (1, 0, 3, 4)), without_counter(A, 0)]
    [(2, ((0, 1, 2, 3), (1, 0, 1, 1), (1, 0, 3, 4))), (2, ((1, 0, 1, 1),))]
    """,
    "merged": """
    >>> from coincounters.boards import merged
    >>> B = (2, ((0, 1, 1, 2),))
    >>> [merged(B, (1, ())), merged(B, B, apart=True)]
    [(2, ((0, 1, 1, 2),)), (4, ((0, 1, 1, 2), (2, 3, 1, 2)))]
    """,
    "renamed": """
    >>> from coincounters.boards import renamed
    >>> A = (2, ((0, 1, 2, 3), (1, 0, 1, 1)))
    >>> renamed(A, (1, 0))
    (2, ((1, 0, 2, 3), (0, 1, 1, 1)))
    """,
    "Purse": """
    >>> from coincounters.purses import Purse
    >>> A = (2, ((0, 1, 2, 3), (1, 0, 1, 1)))
    >>> purse = Purse(A, 0, 2)
    >>> [purse.board == A, purse.kind, purse.amount, purse.best, len(purse)]
    [True, 0, 2, (3, 3), 0]
    """,
    "attributes": """
    >>> from coincounters.purses import Purse
    >>> [Purse.MOST_EDITS, Purse((1, ()), 0, 5).best]
    [60, (5,)]
    """,
    "change": """
    >>> from coincounters.purses import Purse
    >>> A = (2, ((0, 1, 2, 3), (1, 0, 1, 1)))
    >>> purse = Purse(A, 0, 2)
    >>> [purse.change(0), purse.kind, purse.amount, purse.earn(1), purse.change(1), purse.best, purse.close(0), purse.best]
    [1, 1, 3, 2, 3, (None, None), 4, (4, 0)]
    """,
    "undo": """
    >>> from coincounters.purses import Purse
    >>> A = (2, ((0, 1, 2, 3), (1, 0, 1, 1)))
    >>> purse = Purse(A, 0, 3)
    >>> [purse.change(0), purse.amount, purse.undo(), purse.kind, purse.amount]
    [1, 3, 0, 0, 3]
    """,
    "attempt": """
    >>> from coincounters.purses import Purse
    >>> A = (2, ((0, 1, 2, 3), (1, 0, 1, 1)))
    >>> purse = Purse(A, 0, 2)
    >>> purse.attempt([('change', 0), ('change', 0)])
    raises Rejected(1)
    """,
    "state": """
    >>> from coincounters.purses import Purse
    >>> purse = Purse((1, ()), 0, 2)
    >>> [purse.earn(3), purse.state(), purse.state(version=0)]
    [1, ((1, ()), 0, 5), ((1, ()), 0, 2)]
    """,
    "certificate": """
    >>> from coincounters.purses import Purse
    >>> A = (2, ((0, 1, 2, 3), (1, 0, 1, 1)))
    >>> Purse(A, 0, 2).certificate(1, 3)
    ('route', (0,))
    """,
    "walk": """
    >>> from coincounters.purses import Purse
    >>> A = (2, ((0, 1, 2, 3), (1, 0, 1, 1)))
    >>> list(Purse(A, 0, 4).walk(1, 9))
    [(0, 1, 6), (1, 0, 6), (0, 1, 9)]
    """,
    "edits": """
    >>> from coincounters.purses import Purse
    >>> purse = Purse((1, ()), 0, 2)
    >>> [purse.earn(3), purse.edits()]
    [1, (('earn', 3),)]
    """,
    "read": """
    >>> from coincounters.purses import Purse
    >>> purse = Purse.read('2 kinds; 0: 7; 0>1 2:3 1>0 1:1')
    >>> [purse.board, purse.kind, purse.amount]
    [(2, ((0, 1, 2, 3), (1, 0, 1, 1))), 0, 7]
    """,
    "len_str_eq": """
    >>> from coincounters.purses import Purse
    >>> A = (2, ((0, 1, 2, 3), (1, 0, 1, 1)))
    >>> [str(Purse(A, 0, 7)), Purse(A, 0, 7) == Purse(A, 1, 7)]
    ['2 kinds, 2 counters, 7 coins of kind 0, 0 edits', False]
    """,
    "Cap": """
    >>> from coincounters.caps import Cap
    >>> cap = Cap(10)
    >>> [cap.most, cap.room(4)]
    [10, 6]
    """,
    "CappedPurse": """
    >>> from coincounters.purses import CappedPurse
    >>> A = (2, ((0, 1, 2, 3), (1, 0, 1, 1)))
    >>> purse = CappedPurse(A, 0, 4, 5)
    >>> [purse.room(purse.amount), purse.change(0)]
    raises OverCap(6)
    """,
    "purse_text": """
    >>> from coincounters.texts import purse_text
    >>> A = (2, ((0, 1, 2, 3), (1, 0, 1, 1)))
    >>> [purse_text(A, 0, 7), purse_text((1, ()), 0, 5)]
    ['2 kinds; 0: 7; 0>1 2:3 1>0 1:1', '1 kinds; 0: 5;']
    """,
    "parse_purse": """
    >>> from coincounters.texts import parse_purse
    >>> parse_purse('2 kinds; 0: 7; 0>1 2:3 1>1 1:1')
    raises BadText(6)
    """,
    "Shell": """
    >>> from coincounters.purses import Purse
    >>> from coincounters.shells import Shell
    >>> Shell(Purse((1, ()), 0, 5)).execute('purse')
    '1 kinds; 0: 5;'
    """,
    "execute": """
    >>> from coincounters.purses import Purse
    >>> from coincounters.shells import Shell
    >>> A = (2, ((0, 1, 2, 3), (1, 0, 1, 1)))
    >>> shell = Shell(Purse(A, 0, 2))
    >>> [shell.execute('best'), shell.execute('can 1 4'), shell.execute('earn 2'), shell.execute('best'), shell.execute('change 1'), shell.execute('put up 1>0 1:0')]
    ['3 3', 'ceiling', 'ok 1', 'endless endless', 'error WrongKind', 'unknown command']
    """,
}


def session_result(example):
    """What a session ends with, the repr of the last expression or the error, and the line that is expected."""
    *lines, expected = [line.strip() for line in example.strip().splitlines()]
    *statements, expression = [line.removeprefix(">>> ") for line in lines]
    names = {}
    for statement in statements:
        exec(statement, names)
    try:
        return repr(eval(expression, names)), expected
    except (ValueError, LookupError) as error:
        fields = ", ".join(repr(value) for value in vars(error).values())
        return f"raises {type(error).__name__}({fields})", expected


class ExamplesTest(unittest.TestCase):
    def test_examples(self):
        for name, example in EXAMPLES.items():
            with self.subTest(name=name):
                result, expected = session_result(example)
                self.assertEqual(result, expected)


if __name__ == "__main__":
    unittest.main()
