"""The list of calls as a whole: how it is read, how answers stand, what is kept."""

import unittest

from teamsail.desk import answers
from tests.calling import (COMBS, MOVES, RESULT, SWAP, TEXT, UNDO, WINS, ask, best, can, cannot, duel, judge, left, line,
                           load, match_text, move, order, passes, table, value, values)

MATCH = load(match_text("1 2 3 4", cans=["R2 B1", "B2 B1"]))
OTHERS = [TEXT, RESULT, COMBS, WINS, judge([0, 0, 1, 1]), passes(0), table(1), MOVES, move(0), UNDO, value(0), best(1),
          values(2), line(0), duel(2, 0, [0, 0]), SWAP, can(0, 3), cannot(0, 3), order([0, 2, 1, 3]), left(0, 4)]
NAMES = ["R1", "R2", "R3", "B1", "B2", "B3"]
# The most that there is to solve: each boat can pass each other one, and the most turns are left.
MOST = load(match_text("1 2 3 8 9 13", left=5, cans=[a + " " + b for a in NAMES for b in NAMES if a != b]))


def in_one_list(calls):
    return [number for call in calls for number in call]


LONG = in_one_list([RESULT, MATCH] + OTHERS + [move(3), move(4), judge([9]), load("boats 2"), UNDO] + OTHERS
                   + [load(match_text("1 2 3 8 9 13", "last", left=20))] + OTHERS)


class Answers(unittest.TestCase):
    def test_how_many_numbers_then_these(self):
        self.assertEqual(answers(MATCH + RESULT + passes(2) + MOVES + judge([0, 1, 0, 1]) + move(0)),
                         [1, 2, 3, 1, 4, 6, 1, -2, 5, 4, 0, 3, 101, 103, 3, 1, 4, 6, 1, 1])

    def test_those_of_solving_and_changing(self):
        match = load(match_text("1 2 3 4", left=1, cans=["R2 B1"]))
        self.assertEqual(answers(match + value(0) + best(0) + values(0) + line(0) + duel(0, 0, []) + duel(0, 1, [101])),
                         [1, 2, 1, 1, 2, 0, 1, 9, 4, 0, 1, 3, 1, 101, 0, 103, 0, 8, 1, 0, 4, 0, 2, 1, 3, 1,
                          8, 1, 0, 4, 0, 2, 1, 3, 1, 8, 1, 101, 4, 2, 0, 1, 3, 0])
        self.assertEqual(answers(match + can(0, 3) + cannot(1, 2) + left(1, 20) + order([3, 2, 1, 0]) + SWAP + RESULT),
                         [1, 2, 1, 2, 1, 1, 1, 0, 1, 0, 1, 0, 3, 1, 3, 7])

    def test_numbers_ahead_of_a_row(self):
        self.assertEqual(answers(MATCH + duel(0, 1, [2, 2, 2]) + duel(3, 2, []) + order([]) + RESULT),
                         [1, 2, 1, -3, 1, -2, 1, -3, 3, 1, 4, 6])

    def test_an_empty_row(self):
        self.assertEqual(answers(MATCH + judge([]) + load("") + UNDO), [1, 2, 1, -3, 1, -1001, 1, -6])

    def test_rows_that_look_like_calls(self):
        self.assertEqual(answers(MATCH + judge([2, 3, 0]) + RESULT), [1, 2, 1, -3, 3, 1, 4, 6])
        self.assertEqual(answers([0, 3, 2, 2, 2] + RESULT), [1, -1001, 1, -1])

    def test_a_list_is_given_back(self):
        told = answers(list(LONG))
        self.assertIs(type(told), list)
        self.assertEqual({type(number) for number in told}, {int})

    def test_several_calls_on_one_match(self):
        told = ask(MATCH, RESULT, move(3), RESULT, move(4), RESULT, passes(1), UNDO, UNDO, RESULT)
        self.assertEqual(told, [[2], [1, 4, 6], [1], [1, 3, 7], [1], [1, 3, 7], [1, 3], [1], [0], [1, 4, 6]])

    def test_four_hundred_calls(self):
        told = ask(load(match_text("1 2 3 4 5 6")), *[table(0)] * 399)
        self.assertEqual(len(told), 400)
        self.assertEqual(told[1], told[399])

    def test_four_hundred_calls_that_solve_the_most(self):
        calls = [value(0), best(1), values(2), line(0), duel(1, 0, [0, 0]), SWAP, cannot(5, 0), can(5, 0),
                 order([5, 4, 3, 2, 1, 0]), order([0, 3, 1, 4, 2, 5]), left(1, 5), left(0, 5), SWAP, SWAP]
        told = ask(MOST, *(calls * 29)[:399])
        self.assertEqual(len(told), 400)
        for k, answer in enumerate(told[1:]):
            self.assertGreaterEqual(answer[0], 0)
            if k >= 2 * len(calls):
                self.assertEqual(answer, told[1 + k - 2 * len(calls)])


class NoMatch(unittest.TestCase):
    def test_each_call_is_refused(self):
        for call in OTHERS:
            self.assertEqual(answers(call), [1, -1])

    def test_it_is_looked_at_ahead_of_all_else(self):
        for call in (judge([]), judge([5]), passes(2), passes(-1), table(7), move(-4), move(1), value(3), best(-1),
                     values(9), line(4), duel(3, 0, []), duel(0, 2, []), duel(0, 0, [1]), can(0, 0), cannot(7, 0),
                     order([]), left(2, 0), left(0, 21)):
            self.assertEqual(answers(call), [1, -1])

    def test_a_refused_load_makes_no_match(self):
        for text in ("", "boats 2", "x" * 2001):
            told = ask(load(text), *OTHERS)
            self.assertEqual(told[1:], [[-1]] * len(OTHERS))

    def test_a_load_behind_refusals(self):
        self.assertEqual(answers(RESULT + MATCH + RESULT), [1, -1, 1, 2, 3, 1, 4, 6])


class WatchedList(list):
    """A list that fails when it is changed, if only for a while."""

    def refuse(self, *given, **named):
        raise AssertionError("what is handed in is not changed")

    append = extend = insert = pop = remove = clear = sort = reverse = refuse
    __setitem__ = __delitem__ = __iadd__ = __imul__ = refuse


class NothingElse(unittest.TestCase):
    def test_what_is_handed_in_stays_as_it_was(self):
        calls = list(LONG)
        answers(calls)
        self.assertEqual(calls, LONG)

    def test_not_for_a_while_either(self):
        self.assertEqual(answers(WatchedList(LONG)), answers(list(LONG)))

    def test_the_same_list_twice_is_answered_the_same(self):
        calls = list(LONG)
        first = answers(calls)
        self.assertEqual(answers(calls), first)

    def test_nothing_is_kept_from_one_time_to_the_next(self):
        answers(MATCH + move(0))
        self.assertEqual(answers(RESULT), [1, -1])
        self.assertEqual(answers(MATCH + UNDO), [1, 2, 1, -6])

    def test_what_is_given_back_is_the_caller_s_own(self):
        first = answers(list(LONG))
        wanted = list(first)
        first.clear()
        self.assertEqual(answers(list(LONG)), wanted)


if __name__ == "__main__":
    unittest.main()
