"""Promises 6 and 7: passes and table."""

import itertools
import unittest

from tests.calling import COMBS, RESULT, ask, ask_last, judge, load, match_text, move, passes, table


def places(row, team):
    return [k for k, holder in enumerate(row) if holder == team]


def fewest(rows, results, row, team):
    """By another way than the program's: a combination can be reached if none of
    the team's boats, from the front, is further back there; each place that one
    of them has gained is one pass."""
    counts = []
    for other, result in zip(rows, results):
        gains = [a - b for a, b in zip(places(row, team), places(other, team))]
        if result == team + 1 and min(gains) >= 0:
            counts.append(sum(gains))
    return min(counts)


def order_of(row):
    """An order's names with these teams."""
    counts = [0, 0]
    names = []
    for team in row:
        counts[team] += 1
        names.append("RB"[team] + str(counts[team]))
    return " ".join(names)


class Passes(unittest.TestCase):
    def passes(self, points, tie, order, team):
        return ask_last(load(match_text(points, tie, order)), passes(team))

    def test_a_team_that_wins_already_needs_none(self):
        self.assertEqual(self.passes("1 2 3 4", "draw", "R1 R2 B1 B2", 0), [1, 0])
        self.assertEqual(self.passes("1 2 3 4", "draw", "B1 B2 R1 R2", 1), [1, 0])

    def test_a_draw_is_no_win(self):
        self.assertEqual(self.passes("1 2 3 4", "draw", "R1 B1 B2 R2", 0), [1, 1])
        self.assertEqual(self.passes("1 2 3 4", "draw", "R1 B1 B2 R2", 1), [1, 1])

    def test_a_tie_that_is_won_is_a_win(self):
        for tie in ("first", "last"):
            self.assertEqual(self.passes("1 2 3 4", tie, "R1 B1 B2 R2", 0), [1, 1])
            self.assertEqual(self.passes("1 2 3 4", tie, "R1 B1 B2 R2", 1), [1, 0])

    def test_passing_the_first_boat_may_lose_a_tie(self):
        # From B R B R a pass at the front leads to a tie that team 0 loses; the one at the back wins.
        self.assertEqual(self.passes("1 2 3 4", "first", "B1 R1 B2 R2", 0), [1, 1])
        self.assertEqual(self.passes("1 2 3 4", "draw", "B1 R1 B2 R2", 0), [1, 2])

    def test_from_the_back_to_the_front(self):
        self.assertEqual(self.passes("1 2 3 4", "draw", "B1 B2 R1 R2", 0), [1, 3])
        self.assertEqual(self.passes("1 2 3 4", "first", "B1 B2 R1 R2", 0), [1, 2])
        self.assertEqual(self.passes("1 2 3 4", "draw", "R1 R2 B1 B2", 1), [1, 3])
        self.assertEqual(self.passes("1 2 3 4 5 6", "draw", "B1 B2 B3 R1 R2 R3", 0), [1, 5])

    def test_one_pass_at_the_right_place(self):
        # Any pass but the last place's leaves the team with the dear last place.
        self.assertEqual(self.passes("1 2 3 4 5 99", "draw", "B1 B2 B3 R1 R2 R3", 0), [1, 3])
        self.assertEqual(self.passes("1 2 3 4 5 99", "draw", "R1 R2 B1 B2 B3 R3", 0), [1, 1])

    def test_the_team_that_moves_is_the_one_told_not_the_one_whose_turn_it_is(self):
        for turn in ("R", "B"):
            for left in (0, 20):
                text = match_text("1 2 3 4", order="R1 R2 B1 B2", turn=turn, left=left)
                self.assertEqual(ask(load(text), passes(0), passes(1))[1:], [[1, 0], [1, 3]])

    def test_can_lines_mean_nothing(self):
        text = match_text("1 2 3 4", order="B1 B2 R1 R2", cans=["R1 B1"])
        self.assertEqual(ask_last(load(text), passes(0)), [1, 3])

    def test_from_the_combination_as_it_stands(self):
        text = match_text("1 2 3 4", order="R1 B1 B2 R2")
        self.assertEqual(ask(load(text), passes(1), move(101), passes(1), RESULT)[1:],
                         [[1, 1], [2], [1, 0], [2, 6, 4]])

    def test_no_such_team(self):
        match = load(match_text("1 2 3 4"))
        for team in (-1, 2, 3, 2147483647, -2147483648):
            self.assertEqual(ask_last(match, passes(team)), [-2])

    def test_no_match(self):
        self.assertEqual(ask_last(passes(0)), [-1])
        self.assertEqual(ask_last(passes(2)), [-1])


class Table(unittest.TestCase):
    def test_two_boats_a_team(self):
        match = load(match_text("1 2 3 4"))
        self.assertEqual(ask(match, table(0), table(1))[1:],
                         [[6, 1, 0, 1, 0, 1, 1, 1, 1, 1, 2, 1, 3],
                          [6, 1, 3, 1, 2, 1, 1, 1, 1, 1, 0, 1, 0]])

    def test_against_another_way(self):
        for points in ("1 2 3 4", "0 1 2 9", "0 5 6 7", "1 2 3 4 5 6", "1 2 3 8 9 13", "1 2 3 4 5 99",
                       "0 90 91 92 93 94"):
            for tie in ("draw", "first", "last"):
                boats = len(points.split()) // 2
                rows = [row for row in itertools.product((0, 1), repeat=2 * boats) if sum(row) == boats]
                match = load(match_text(points, tie))
                results = ask_last(match, COMBS)[1::2 * boats + 1]
                for team in (0, 1):
                    wanted = [len(rows)]
                    for row in rows:
                        wanted += [1, fewest(rows, results, row, team)]
                    self.assertEqual(ask_last(match, table(team)), wanted)

    def test_passes_tells_the_same_of_each(self):
        points = "1 2 3 8 9 13"
        rows = [row for row in itertools.product((0, 1), repeat=6) if sum(row) == 3]
        for team in (0, 1):
            told = ask_last(load(match_text(points, "last")), table(team))
            for k, row in enumerate(rows):
                one = ask_last(load(match_text(points, "last", order_of(row))), passes(team))
                self.assertEqual(one, told[1 + 2 * k:3 + 2 * k])

    def test_the_order_that_stands_means_nothing(self):
        self.assertEqual(ask_last(load(match_text("1 2 3 4", order="B2 B1 R2 R1")), table(0)),
                         ask_last(load(match_text("1 2 3 4")), table(0)))

    def test_no_such_team(self):
        match = load(match_text("1 2 3 4 5 6"))
        for team in (-1, 2, 3, 2147483647, -2147483648):
            self.assertEqual(ask_last(match, table(team)), [-2])

    def test_nothing_is_changed(self):
        told = ask(load(match_text("1 2 3 4", order="B1 B2 R1 R2")), passes(0), table(0), RESULT, judge([0, 0, 1, 1]))
        self.assertEqual(told[3:], [[2, 7, 3], [1, 3, 7]])

    def test_no_match(self):
        self.assertEqual(ask_last(table(0)), [-1])
        self.assertEqual(ask_last(table(-1)), [-1])


if __name__ == "__main__":
    unittest.main()
