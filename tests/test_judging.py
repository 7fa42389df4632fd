"""Promises 2 to 5: result, combs, wins, judge."""

import itertools
import unittest

from tests.calling import COMBS, RESULT, UNDO, WINS, ask, ask_last, judge, load, match_text, move


def result_of(points, tie, order, *more):
    return ask_last(load(match_text(points, tie, order)), *more, RESULT)


def all_rows(boats):
    """All combinations in order, by another way than the program's."""
    return [row for row in itertools.product((0, 1), repeat=2 * boats) if sum(row) == boats]


class Result(unittest.TestCase):
    def test_two_boats_a_team(self):
        self.assertEqual(result_of("1 2 3 4", "draw", "R1 R2 B1 B2"), [1, 3, 7])
        self.assertEqual(result_of("1 2 3 4", "draw", "B1 R2 B2 R1"), [2, 6, 4])

    def test_three_boats_a_team(self):
        self.assertEqual(result_of("1 2 3 4 5 6", "draw", "R1 B1 R2 B2 R3 B3"), [1, 9, 12])
        self.assertEqual(result_of("1 2 3 4 5 6", "draw", "R1 B3 B1 B2 R3 R2"), [2, 12, 9])

    def test_the_points_tell_not_the_places(self):
        self.assertEqual(result_of("1 2 3 9", "draw", "R1 B1 B2 R2"), [2, 10, 5])
        self.assertEqual(result_of("0 7 8 9", "draw", "R1 B1 B2 R2"), [1, 9, 15])

    def test_a_tie_that_is_a_draw(self):
        self.assertEqual(result_of("1 2 3 4", "draw", "R1 B1 B2 R2"), [0, 5, 5])
        self.assertEqual(result_of("1 2 3 4", "draw", "B1 R1 R2 B2"), [0, 5, 5])

    def test_a_tie_that_the_first_place_loses(self):
        self.assertEqual(result_of("1 2 3 4", "first", "R1 B1 B2 R2"), [2, 5, 5])
        self.assertEqual(result_of("1 2 3 4", "first", "B1 R1 R2 B2"), [1, 5, 5])

    def test_a_tie_that_the_last_place_loses(self):
        self.assertEqual(result_of("1 2 3 4", "last", "R1 B1 B2 R2"), [2, 5, 5])
        self.assertEqual(result_of("1 2 3 4", "last", "B1 R1 R2 B2"), [1, 5, 5])

    def test_a_tie_rule_means_nothing_without_a_tie(self):
        for tie in ("draw", "first", "last"):
            self.assertEqual(result_of("1 2 3 4", tie, "R1 B1 R2 B2"), [1, 4, 6])

    def test_one_team_first_and_the_other_last_in_a_tie(self):
        # 1 + 8 + 9 = 2 + 3 + 13 = 18: team 0 has the first place, team 1 the last.
        points = "1 2 3 8 9 13"
        order = "R1 B1 B2 R2 R3 B3"
        self.assertEqual(result_of(points, "draw", order), [0, 18, 18])
        self.assertEqual(result_of(points, "first", order), [2, 18, 18])
        self.assertEqual(result_of(points, "last", order), [1, 18, 18])
        order = "B1 R1 R2 B2 B3 R3"
        self.assertEqual(result_of(points, "first", order), [1, 18, 18])
        self.assertEqual(result_of(points, "last", order), [2, 18, 18])

    def test_of_the_order_as_it_stands(self):
        text = match_text("1 2 3 4", order="R1 B1 B2 R2", cans=["R2 B2"])
        self.assertEqual(ask(load(text), RESULT, move(4), RESULT, UNDO, RESULT)[1:],
                         [[0, 5, 5], [1], [1, 4, 6], [0], [0, 5, 5]])

    def test_no_match(self):
        self.assertEqual(ask_last(RESULT), [-1])


class Combinations(unittest.TestCase):
    def test_two_boats_a_team(self):
        told = ask_last(load(match_text("1 2 3 4")), COMBS)
        self.assertEqual(told, [6,
                                1, 0, 0, 1, 1,
                                1, 0, 1, 0, 1,
                                0, 0, 1, 1, 0,
                                0, 1, 0, 0, 1,
                                2, 1, 0, 1, 0,
                                2, 1, 1, 0, 0])

    def test_the_tie_rules(self):
        for tie, results in (("draw", [1, 1, 0, 0, 2, 2]), ("first", [1, 1, 2, 1, 2, 2]),
                             ("last", [1, 1, 2, 1, 2, 2])):
            told = ask_last(load(match_text("1 2 3 4", tie)), COMBS)
            self.assertEqual(told[1::5], results)

    def test_three_boats_a_team(self):
        for points in ("1 2 3 4 5 6", "1 2 3 8 9 13", "0 1 2 3 4 9999"):
            for tie in ("draw", "first", "last"):
                match = load(match_text(points, tie))
                wanted = [20]
                for row in all_rows(3):
                    wanted += [ask_last(match, judge(row))[0]] + list(row)
                self.assertEqual(ask_last(match, COMBS), wanted)

    def test_the_order_that_stands_means_nothing(self):
        told = ask_last(load(match_text("1 2 3 4")), COMBS)
        self.assertEqual(ask_last(load(match_text("1 2 3 4", order="B2 B1 R2 R1", turn="B")), COMBS), told)

    def test_no_match(self):
        self.assertEqual(ask_last(COMBS), [-1])


class Wins(unittest.TestCase):
    def wins(self, points, tie):
        return ask_last(load(match_text(points, tie)), WINS)

    def test_two_boats_a_team(self):
        self.assertEqual(self.wins("1 2 3 4", "draw"), [2, 2, 2])
        self.assertEqual(self.wins("1 2 3 4", "first"), [3, 0, 3])
        self.assertEqual(self.wins("1 2 3 4", "last"), [3, 0, 3])
        self.assertEqual(self.wins("1 2 3 9", "draw"), [3, 0, 3])

    def test_three_boats_a_team(self):
        self.assertEqual(self.wins("1 2 3 4 5 6", "draw"), [10, 0, 10])
        self.assertEqual(self.wins("1 2 3 8 9 13", "draw"), [9, 2, 9])

    def test_the_order_that_stands_means_nothing(self):
        self.assertEqual(ask_last(load(match_text("1 2 3 4", order="B1 B2 R1 R2")), WINS), [2, 2, 2])

    def test_no_match(self):
        self.assertEqual(ask_last(WINS), [-1])


class Judge(unittest.TestCase):
    def test_two_boats_a_team(self):
        match = load(match_text("1 2 3 4"))
        self.assertEqual(ask(match, judge([0, 0, 1, 1]), judge([1, 0, 1, 0]), judge([0, 1, 1, 0]))[1:],
                         [[1, 3, 7], [2, 6, 4], [0, 5, 5]])

    def test_the_tie_rules(self):
        for tie, result in (("draw", 0), ("first", 2), ("last", 1)):
            match = load(match_text("1 2 3 8 9 13", tie))
            self.assertEqual(ask_last(match, judge([0, 1, 1, 0, 0, 1])), [result, 18, 18])
        for tie, result in (("draw", 0), ("first", 1), ("last", 2)):
            match = load(match_text("1 2 3 8 9 13", tie))
            self.assertEqual(ask_last(match, judge([1, 0, 0, 1, 1, 0])), [result, 18, 18])

    def test_the_match_is_not_changed(self):
        match = load(match_text("1 2 3 4"))
        self.assertEqual(ask(match, judge([1, 1, 0, 0]), RESULT)[1:], [[2, 7, 3], [1, 4, 6]])

    def test_rows_that_are_no_such_combination(self):
        match = load(match_text("1 2 3 4"))
        for row in ([], [0], [0, 0, 1], [0, 0, 1, 1, 0], [0, 0, 0, 1], [0, 1, 1, 1], [0, 0, 1, 2], [0, 1, 1, 2],
                    [0, 0, 1, -1], [0, 0, 0, 1, 1, 1], [0, 0, 2, 2], [2147483647, 0, 1, -2147483648], [0, 1] * 500):
            self.assertEqual(ask(match, judge(row), RESULT)[1:], [[-3], [1, 4, 6]])
        match = load(match_text("1 2 3 4 5 6"))
        for row in ([0, 0, 1, 1], [0, 0, 0, 0, 1, 1], [0, 0, 0, 1, 1, 1, 1], [0, 0, 0, 1, 1, 3]):
            self.assertEqual(ask_last(match, judge(row)), [-3])

    def test_no_match(self):
        self.assertEqual(ask_last(judge([0, 0, 1, 1])), [-1])
        self.assertEqual(ask_last(judge([])), [-1])


if __name__ == "__main__":
    unittest.main()
