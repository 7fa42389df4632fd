"""Promise 15: duel."""

import random
import unittest

from tests.calling import TEXT, UNDO, ask, ask_last, duel, line, load, match_text, move, value
from tests.paths import some_matches

GOALS = (0, 1, 2)
# Team 0 is behind; R2 and B2 can pass one another.
BACK_AND_FORTH = ["R2 B2", "B2 R2"]


def back_and_forth(turn, left):
    return load(match_text("1 2 3 9", "draw", "R1 B1 B2 R2", turn, left, BACK_AND_FORTH))


class ByHand(unittest.TestCase):
    def test_team_0_makes_the_best_moves(self):
        match = back_and_forth("B", 2)
        # Whatever team 1 does, team 0 passes if it needs to.
        self.assertEqual(ask_last(match, duel(0, 0, [0])), [2, 0, 4, 4, 0, 2, 1, 3, 1])
        self.assertEqual(ask_last(match, duel(0, 0, [103])), [2, 103, 0, 4, 0, 2, 1, 3, 1])
        self.assertEqual(ask_last(match, duel(0, 0, [102])), [2, 102, 0, 4, 0, 3, 2, 1, 2])

    def test_team_1_makes_the_best_moves(self):
        match = back_and_forth("R", 2)
        self.assertEqual(ask_last(match, duel(0, 1, [4])), [2, 4, 4, 4, 0, 2, 3, 1, 2])
        self.assertEqual(ask_last(match, duel(0, 1, [0])), [2, 0, 0, 4, 0, 2, 3, 1, 2])
        self.assertEqual(ask_last(match, duel(0, 1, [101])), [2, 101, 0, 4, 2, 0, 3, 1, 2])

    def test_three_turns(self):
        # B2 goes ahead of its mate, out of R2's reach: the pass may not be made any more.
        match = back_and_forth("R", 3)
        self.assertEqual(ask(match, duel(0, 1, [0, 0]), duel(0, 1, [0, 4]), duel(0, 1, [4, 0]))[1:],
                         [[3, 0, 102, 0, 4, 0, 3, 2, 1, 2], [-3], [3, 4, 0, 0, 4, 0, 2, 1, 3, 1]])

    def test_the_other_goals(self):
        # For goal 2 team 0 is content to be ahead once; team 1 does what it is told.
        match = back_and_forth("R", 2)
        self.assertEqual(ask(match, duel(2, 0, [0]), duel(2, 0, [4]), duel(1, 0, [0]))[1:],
                         [[2, 4, 0, 4, 0, 2, 1, 3, 1], [2, 4, 4, 4, 0, 2, 3, 1, 2], [2, 0, 0, 4, 0, 2, 3, 1, 2]])
        match = load(match_text("1 2 3 9", "draw", "R1 B1 R2 B2", "B", 2, BACK_AND_FORTH))
        self.assertEqual(ask(match, duel(1, 1, [0]), duel(1, 1, [4]), duel(2, 1, [0]))[1:],
                         [[2, 4, 0, 4, 0, 2, 3, 1, 2], [2, 4, 4, 4, 0, 2, 1, 3, 1], [2, 0, 0, 4, 0, 2, 1, 3, 1]])

    def test_a_draw_at_the_end(self):
        match = load(match_text("1 2 3 4", "draw", "R1 B1 B2 R2", "R", 1))
        self.assertEqual(ask_last(match, duel(0, 0, [])), [1, 0, 4, 0, 2, 3, 1, 0])
        self.assertEqual(ask_last(match, duel(0, 1, [0])), [1, 0, 4, 0, 2, 3, 1, 0])

    def test_three_boats_a_team(self):
        match = load(match_text("1 2 3 4 5 6", "draw", "R1 B1 B2 B3 R2 R3", "R", 2, ["R2 B3"]))
        self.assertEqual(ask_last(match, duel(0, 1, [5])), [2, 5, 0, 6, 0, 3, 4, 1, 5, 2, 2])
        self.assertEqual(ask_last(match, duel(0, 0, [104])), [2, 0, 104, 6, 0, 3, 4, 1, 5, 2, 2])


class Rows(unittest.TestCase):
    def refused(self, match, team, *rows):
        for goal in GOALS:
            for row in rows:
                self.assertEqual(ask_last(match, duel(goal, team, row)), [-3], row)

    def test_no_turns_left(self):
        match = back_and_forth("R", 0)
        for goal in GOALS:
            for team in (0, 1):
                self.assertEqual(ask_last(match, duel(goal, team, [])), [0, 4, 0, 2, 3, 1, 2])
        self.refused(match, 0, [0], [0, 0])
        self.refused(match, 1, [0], [4])

    def test_the_other_team_has_no_turn(self):
        self.assertEqual(ask_last(back_and_forth("R", 1), duel(0, 0, [])), [1, 4, 4, 0, 2, 1, 3, 1])
        self.refused(back_and_forth("R", 1), 0, [0], [4])
        self.refused(back_and_forth("B", 1), 1, [0], [4])

    def test_an_empty_row(self):
        self.refused(back_and_forth("R", 1), 1, [])
        self.refused(back_and_forth("B", 1), 0, [])
        self.refused(back_and_forth("R", 7), 0, [])
        self.refused(back_and_forth("R", 7), 1, [])

    def test_one_too_few_and_one_too_many(self):
        for turn, team, other in (("R", 0, 1), ("B", 1, 0)):
            match = back_and_forth(turn, 7)
            for row, mover in (([0] * 3, team), ([0] * 4, other)):
                self.assertEqual(ask_last(match, duel(0, mover, row))[0], 7)
                self.refused(match, mover, row[1:], row + [0])
            match = back_and_forth(turn, 6)
            for mover in (team, other):
                self.assertEqual(ask_last(match, duel(0, mover, [0] * 3))[0], 6)
                self.refused(match, mover, [0] * 2, [0] * 4)

    def test_a_long_row(self):
        self.refused(back_and_forth("R", 7), 0, [0] * 1000)

    def test_moves_that_may_never_be_made(self):
        for number in (-1, 1, 2, 3, 5, 99, 100, 102, 103, 104, 2147483647, -2147483648):
            self.refused(back_and_forth("R", 1), 1, [number])

    def test_a_move_of_the_wrong_team(self):
        # 4 and 101 are team 0's moves, 102 and 103 those of team 1.
        self.assertEqual(ask_last(back_and_forth("R", 1), duel(0, 1, [4]))[:2], [1, 4])
        self.refused(back_and_forth("B", 1), 0, [4], [101])
        self.assertEqual(ask_last(back_and_forth("B", 1), duel(0, 0, [103]))[:2], [1, 103])
        self.refused(back_and_forth("R", 1), 1, [102], [103])

    def test_a_move_that_may_not_be_made_when_its_turn_comes(self):
        # The pass may be made once; then it is done already.
        match = load(match_text("1 2 3 4", "draw", "R1 R2 B1 B2", "B", 3, ["B1 R2"]))
        self.assertEqual(ask_last(match, duel(0, 0, [3, 0]))[:4], [3, 3, 0, 0])
        self.assertEqual(ask_last(match, duel(0, 0, [0, 3]))[:4], [3, 0, 0, 3])
        self.refused(match, 0, [3, 3])

    def test_a_move_that_may_be_made_only_when_its_turn_comes(self):
        match = load(match_text("1 2 3 4", "draw", "R1 R2 B1 B2", "B", 3, ["B1 R2", "B1 R1"]))
        self.refused(match, 0, [2, 3], [2, 0])
        self.assertEqual(ask_last(match, duel(2, 0, [3, 2]))[:4], [3, 3, 0, 2])


class Refusals(unittest.TestCase):
    def test_their_order(self):
        few = back_and_forth("R", 2)
        many = back_and_forth("R", 8)
        self.assertEqual(ask_last(many, duel(3, 2, [99])), [-2])
        self.assertEqual(ask_last(few, duel(3, 0, [0])), [-2])
        self.assertEqual(ask_last(many, duel(0, 2, [99])), [-7])
        self.assertEqual(ask_last(many, duel(0, 0, [99])), [-7])
        self.assertEqual(ask_last(few, duel(0, 2, [99])), [-2])
        self.assertEqual(ask_last(few, duel(0, 0, [99])), [-3])
        self.assertEqual(ask_last(few, duel(0, 0, [0]))[0], 2)

    def test_goals(self):
        for goal in (-1, 3, 2147483647, -2147483648):
            self.assertEqual(ask_last(back_and_forth("R", 2), duel(goal, 0, [0])), [-2])

    def test_teams(self):
        for team in (-1, 2, 3, 2147483647, -2147483648):
            self.assertEqual(ask_last(back_and_forth("R", 2), duel(0, team, [0])), [-2])
            self.assertEqual(ask_last(back_and_forth("R", 0), duel(0, team, [])), [-2])

    def test_too_many_positions(self):
        three = "1 2 3 4 5 6"
        for goal in GOALS:
            self.assertEqual(ask_last(load(match_text("1 2 3 4", left=7)), duel(goal, 0, [0] * 3))[0], 7)
            self.assertEqual(ask_last(load(match_text("1 2 3 4", left=8)), duel(goal, 0, [0] * 4)), [-7])
            self.assertEqual(ask_last(load(match_text(three, left=5)), duel(goal, 1, [0] * 3))[0], 5)
            self.assertEqual(ask_last(load(match_text(three, left=6)), duel(goal, 1, [0] * 3)), [-7])

    def test_no_match(self):
        for call in (duel(0, 0, []), duel(3, 0, []), duel(0, 2, []), duel(0, 0, [99])):
            self.assertEqual(ask_last(call), [-1])


class NothingIsChanged(unittest.TestCase):
    def test_by_answers_and_by_refusals(self):
        calls = (duel(0, 0, [4]), duel(2, 1, [0]), duel(3, 0, [0]), duel(0, 2, [0]), duel(0, 0, [99]), duel(0, 0, []))
        for call in calls:
            told = ask(back_and_forth("B", 3), TEXT, move(0), TEXT, call, TEXT, UNDO, TEXT, UNDO)
            self.assertEqual(told[3], told[5])
            self.assertEqual(told[6], [0])
            self.assertEqual(told[7], told[1])
            self.assertEqual(told[8], [-6])


class AgainstAnotherWay(unittest.TestCase):
    def check(self, source, match):
        for goal in GOALS:
            for team in (0, 1):
                rows = match.rows(goal, "RB"[team])
                for row in source.sample(rows, min(4, len(rows))):
                    with self.subTest(match=match.text(), goal=goal, team=team, row=row):
                        self.assertEqual(ask_last(load(match.text()), duel(goal, team, row)),
                                         match.play(goal, "RB"[team], row))

    def test_two_boats_a_team(self):
        source = random.Random(6)
        for match in some_matches(source, 90, 2, (0, 1, 2, 3, 4)):
            self.check(source, match)

    def test_three_boats_a_team(self):
        source = random.Random(7)
        for match in some_matches(source, 45, 3, (1, 2, 3)):
            self.check(source, match)

    def test_the_line_s_own_moves(self):
        """Against the best moves of the other team a duel goes as the line does."""
        for match in some_matches(random.Random(8), 30, 2, (5, 6, 7)):
            for goal in GOALS:
                told = ask_last(load(match.text()), line(goal))
                moves = told[1:1 + told[0]]
                first = "RB".index(match.turn)
                self.assertEqual(ask(load(match.text()), duel(goal, first, moves[1::2]),
                                     duel(goal, 1 - first, moves[0::2]))[1:], [told, told])

    def test_a_team_gets_what_the_value_tells_or_better(self):
        better = {0: (2, 0, 1), 1: (1, 0, 2)}
        for match in some_matches(random.Random(9), 30, 2, (1, 2, 3)):
            sure = ask_last(load(match.text()), value(0))[0]
            for team in (0, 1):
                for row in match.rows(0, "RB"[team]):
                    result = ask_last(load(match.text()), duel(0, team, row))[-1]
                    self.assertGreaterEqual(better[team].index(result), better[team].index(sure))


if __name__ == "__main__":
    unittest.main()
