"""Promises 11 to 14: value, best, values, line; and that solving changes nothing."""

import random
import unittest

from tests.calling import (MOVES, RESULT, TEXT, UNDO, ask, ask_last, best, duel, line, load, match_text, move, value,
                           values)
from tests.paths import Match, some_matches

GOALS = (0, 1, 2)
PAIR_BOATS = ["R1", "R2", "B1", "B2"]
TRIO_BOATS = ["R1", "R2", "R3", "B1", "B2", "B3"]

# A draw; team 0 wins behind a pass at the last place, and loses behind letting by at the first.
DRAW_NOW = ("1 2 3 4", "draw", "R1 B1 B2 R2")
# The three goals' values differ.
THREE_VALUES = Match("1 2 3 8 9 13", "draw", "B3 R2 B2 R3 R1 B1", "R", 3, ["B1 R1", "R3 B2", "B1 R3"])
# The three goals' best moves differ.
THREE_BESTS = [
    (Match("0 7 8 9", "last", "B2 R2 B1 R1", "R", 5, ["R2 B2", "B1 B2", "B1 R1", "B1 R2", "R1 B1"]), [4, 0, 2],
     [1, 2, 1]),
    (Match("1 2 3 4 5 6", "draw", "B2 R2 B1 R1 R3 B3", "R", 3, ["R2 B2", "B3 R3", "B2 R3"]), [104, 0, 2], [1, 2, 1]),
    (Match("1 2 3 8 9 13", "draw", "R2 B2 R1 B1 B3 R3", "B", 3, ["B2 R3", "R3 B3", "B2 R2"]), [104, 2, 0], [0, 0, 1]),
    (Match("1 2 3 4 5 6", "first", "B1 R1 B3 R3 R2 B2", "R", 3, ["R1 B1", "B2 R2", "B1 B3", "B1 R1"]), [104, 0, 2],
     [1, 2, 1]),
    (Match("1 2 3 8 9 13", "last", "R3 B1 R2 B3 B2 R1", "B", 3, ["R1 R2", "R2 R1", "B1 R3", "R1 B2"]), [104, 2, 0],
     [2, 2, 1]),
]


def all_pairs(names):
    return [a + " " + b for a in names for b in names if a != b]


def full_match(boats, left, turn="R"):
    """A match in which each boat can pass each other one."""
    if boats == 2:
        return load(match_text("1 2 3 4", turn=turn, left=left, cans=all_pairs(PAIR_BOATS)))
    return load(match_text("1 2 3 8 9 13", turn=turn, left=left, cans=all_pairs(TRIO_BOATS)))


def for_goals(match, call, goals=GOALS):
    return ask(match, *[call(goal) for goal in goals])[1:]


class OneTurnLeft(unittest.TestCase):
    """Small enough to be told by hand."""

    def test_team_0(self):
        match = load(match_text(*DRAW_NOW, "R", 1, ["R2 B2"]))
        self.assertEqual(for_goals(match, values), [[3, 0, 0, 4, 1, 101, 2]] * 3)
        self.assertEqual(for_goals(match, value), [[1], [0], [1]])
        self.assertEqual(for_goals(match, best), [[4, 1], [4, 0], [4, 1]])
        self.assertEqual(for_goals(match, line), [[1, 4, 4, 0, 2, 1, 3, 1]] * 3)

    def test_team_1(self):
        match = load(match_text(*DRAW_NOW, "B", 1, ["B1 R1"]))
        self.assertEqual(for_goals(match, values), [[4, 0, 0, 2, 2, 102, 0, 103, 1]] * 3)
        self.assertEqual(for_goals(match, value), [[2], [2], [0]])
        self.assertEqual(for_goals(match, best), [[2, 2], [2, 2], [2, 0]])
        self.assertEqual(for_goals(match, line), [[1, 2, 4, 2, 0, 3, 1, 2]] * 3)

    def test_a_draw_is_better_than_a_loss(self):
        # Team 1 is ahead; letting the boat at the last place by makes a draw.
        match = load(match_text("1 2 3 4", "draw", "B1 R1 B2 R2", "B", 1))
        self.assertEqual(ask(match, values(0), best(0))[1:], [[3, 0, 2, 101, 0, 103, 0], [0, 2]])
        match = load(match_text("1 2 3 4", "draw", "B1 R1 B2 R2", "R", 1, ["R1 B1"]))
        self.assertEqual(ask(match, values(0), best(0))[1:], [[3, 0, 2, 2, 0, 102, 2], [2, 0]])
        match = load(match_text("1 2 3 4", "draw", "R1 B1 R2 B2", "B", 1, ["B1 R1"]))
        self.assertEqual(ask(match, values(0), best(0))[1:], [[3, 0, 1, 2, 0, 102, 1], [2, 0]])

    def test_the_tie_rules(self):
        # Behind the pass it is a tie; the team with the first place is not the one with the last.
        for tie, result, wanted in (("draw", 0, [2, 0]), ("first", 1, [0, 1]), ("last", 2, [2, 2])):
            match = load(match_text("1 2 3 8 9 13", tie, "R1 B1 R2 B2 B3 R3", "B", 1, ["B1 R1"]))
            self.assertEqual(ask(match, values(0), best(0))[1:],
                             [[5, 0, 1, 2, result, 102, 1, 104, 1, 105, 1], wanted])

    def test_a_tie_that_a_pass_wins(self):
        for tie, result in (("draw", 0), ("first", 1), ("last", 1)):
            match = load(match_text("1 2 3 4", tie, "B1 R1 B2 R2", "R", 1, ["R2 B2"]))
            self.assertEqual(ask(match, values(0), best(0))[1:], [[3, 0, 2, 4, result, 102, 2], [4, result]])


class Value(unittest.TestCase):
    def test_the_goals_differ(self):
        self.assertEqual(for_goals(load(THREE_VALUES.text()), value), [[0], [2], [1]])
        for match, bests, wanted in THREE_BESTS:
            self.assertEqual(for_goals(load(match.text()), value), [[number] for number in wanted])

    def test_no_turns_left(self):
        for order, result in (("R1 R2 B1 B2", 1), ("R1 B1 B2 R2", 0), ("B1 B2 R1 R2", 2)):
            match = load(match_text("1 2 3 4", "draw", order, left=0))
            self.assertEqual(for_goals(match, value), [[result]] * 3)

    def test_the_result_now_is_looked_at_for_goals_1_and_2(self):
        # The team that loses now wins behind its pass.
        text = match_text("1 2 3 9", "draw", "R1 B1 R2 B2", "B", 1, ["B2 R2"])
        self.assertEqual(ask(load(text), RESULT, value(0), value(1), value(2))[1:], [[1, 4, 11], [2], [2], [1]])
        text = match_text("1 2 3 9", "draw", "R1 B1 B2 R2", "R", 1, ["R2 B2"])
        self.assertEqual(ask(load(text), RESULT, value(0), value(1), value(2))[1:], [[2, 10, 5], [1], [2], [1]])

    def test_an_order_on_the_way_is_looked_at_for_goals_1_and_2(self):
        # Team 0 can be ahead for one turn; then team 1 passes back.
        text = match_text("1 2 3 9", "draw", "R1 B1 B2 R2", "R", 2, ["R2 B2", "B2 R2"])
        self.assertEqual(for_goals(load(text), value), [[2], [2], [1]])
        text = match_text("1 2 3 9", "draw", "R1 B1 R2 B2", "B", 2, ["R2 B2", "B2 R2"])
        self.assertEqual(for_goals(load(text), value), [[1], [2], [1]])

    def test_it_goes_along_with_the_match(self):
        text = match_text("1 2 3 9", "draw", "R1 B1 B2 R2", "R", 2, ["R2 B2", "B2 R2"])
        self.assertEqual(ask(load(text), value(2), move(4), value(0), value(1), value(2), move(4), value(2), UNDO, UNDO,
                             value(2))[1:], [[1], [1], [2], [2], [1], [2], [2], [1], [0], [1]])

    def test_the_other_team_s_turn(self):
        for turn, wanted in (("R", [[1], [2], [1]]), ("B", [[2], [2], [2]])):
            text = match_text("1 2 3 9", "draw", "R1 B1 B2 R2", turn, 1, ["R2 B2", "B2 R2"])
            self.assertEqual(for_goals(load(text), value), wanted)


class Best(unittest.TestCase):
    def test_the_goals_differ(self):
        for match, bests, numbers in THREE_BESTS:
            self.assertEqual(for_goals(load(match.text()), best), [list(pair) for pair in zip(bests, numbers)])
        self.assertEqual(for_goals(load(THREE_VALUES.text()), best), [[0, 0], [4, 2], [4, 1]])

    def test_the_first_of_several_as_good(self):
        # All moves are as good: doing nothing has the least number.
        match = load(match_text("1 2 3 4", "draw", "R1 R2 B1 B2", "R", 1, ["R2 R1"]))
        self.assertEqual(ask(match, values(0), best(0))[1:], [[4, 0, 1, 2, 1, 101, 1, 102, 1], [0, 1]])
        # Two passes are as good, and better than the rest.
        match = load(match_text("1 2 3 4", "draw", "B1 R1 B2 R2", "R", 1, ["R2 B2", "R1 B1"]))
        self.assertEqual(ask(match, values(0), best(0))[1:], [[4, 0, 2, 2, 0, 4, 0, 102, 2], [2, 0]])
        match = load(match_text("1 2 3 4", "draw", "R1 B1 R2 B2", "B", 1, ["B2 R2", "B1 R1"]))
        self.assertEqual(ask(match, values(0), best(0))[1:], [[4, 0, 1, 2, 0, 4, 0, 102, 1], [2, 0]])
        # A team that loses all the same does nothing.
        match = load(match_text("1 2 3 4", "first", "R1 B1 B2 R2", "R", 1))
        self.assertEqual(ask(match, values(0), best(0))[1:], [[2, 0, 2, 101, 2], [0, 2]])

    def test_a_boat_waits_to_let_a_mate_by(self):
        # R2 can pass B1, but R1 is between them.
        match = load(match_text("1 2 3 4", "draw", "B1 R1 R2 B2", "R", 3, ["R2 B1"]))
        self.assertEqual(ask(match, values(0), best(0), line(0))[1:],
                         [[3, 0, 0, 102, 1, 103, 2], [102, 1], [3, 102, 0, 2, 4, 1, 2, 0, 3, 1]])
        match = load(match_text("1 2 3 4", "draw", "R1 B1 B2 R2", "B", 3, ["B2 R1"]))
        self.assertEqual(ask(match, values(0), best(0), line(0))[1:],
                         [[3, 0, 0, 102, 2, 103, 1], [102, 2], [3, 102, 0, 2, 4, 3, 0, 2, 1, 2]])

    def test_the_move_goes_by_the_value_behind_it_not_by_the_result_now(self):
        # For goal 1 the value is lost now, yet a move is told that keeps what is left.
        match = load(match_text("1 2 3 9", "draw", "R1 B1 B2 R2", "R", 1, ["R2 B2"]))
        self.assertEqual(ask_last(match, best(1)), [4, 2])
        match = load(match_text("1 2 3 9", "draw", "R1 B1 R2 B2", "B", 1, ["B2 R2"]))
        self.assertEqual(ask_last(match, best(2)), [4, 1])

    def test_no_turns_left(self):
        for boats in (2, 3):
            self.assertEqual(for_goals(full_match(boats, 0), best), [[-5]] * 3)
        self.assertEqual(ask_last(full_match(2, 1), move(0), best(0)), [-5])

    def test_the_order_of_refusals(self):
        for goal in (-1, 3):
            self.assertEqual(ask_last(full_match(2, 0), best(goal)), [-2])
            self.assertEqual(ask_last(full_match(2, 8), best(goal)), [-2])
        self.assertEqual(ask_last(full_match(2, 0), best(1)), [-5])
        self.assertEqual(ask_last(full_match(2, 8), best(1)), [-7])


class Values(unittest.TestCase):
    def test_those_of_the_matches_behind(self):
        for goal in GOALS:
            for match in [THREE_VALUES] + [told[0] for told in THREE_BESTS]:
                told = ask_last(load(match.text()), values(goal))
                moves = ask_last(load(match.text()), MOVES)
                self.assertEqual(told[:1] + told[1::2], moves)
                for number, behind in zip(told[1::2], told[2::2]):
                    self.assertEqual(ask_last(load(match.text()), move(number), value(goal)), [behind])

    def test_the_result_now_is_not_looked_at(self):
        match = load(match_text("1 2 3 9", "draw", "R1 B1 B2 R2", "R", 1, ["R2 B2"]))
        self.assertEqual(for_goals(match, values), [[3, 0, 2, 4, 1, 101, 2]] * 3)

    def test_no_turns_left(self):
        for boats in (2, 3):
            self.assertEqual(for_goals(full_match(boats, 0), values), [[0]] * 3)


class Line(unittest.TestCase):
    def test_move_by_move(self):
        """What best tells, made turn by turn."""
        for match in [THREE_VALUES] + [told[0] for told in THREE_BESTS]:
            for goal in GOALS:
                told = ask_last(load(match.text()), line(goal))
                self.assertEqual(told[0], match.left)
                calls = [load(match.text())]
                for number in told[1:1 + match.left]:
                    self.assertEqual(ask_last(*calls, best(goal))[0], number)
                    calls.append(move(number))
                self.assertEqual(ask_last(*calls, RESULT)[0], told[-1])
                self.assertEqual(told[1 + match.left], len(match.order))
                self.assertEqual(len(told), match.left + len(match.order) + 3)

    def test_by_hand(self):
        # Team 0 passes, and team 1 passes back.
        text = match_text("1 2 3 9", "draw", "R1 B1 B2 R2", "R", 2, ["R2 B2", "B2 R2"])
        self.assertEqual(ask_last(load(text), line(2)), [2, 4, 4, 4, 0, 2, 3, 1, 2])
        # All is lost for goals 0 and 1: doing nothing is as good as any.
        self.assertEqual(ask_last(load(text), line(0)), [2, 0, 0, 4, 0, 2, 3, 1, 2])

    def test_the_result_at_the_end_also_for_goals_1_and_2(self):
        # The value for goal 2 is 1, by the order on the way; at the end team 1 wins.
        text = match_text("1 2 3 9", "draw", "R1 B1 B2 R2", "R", 2, ["R2 B2", "B2 R2"])
        self.assertEqual(ask(load(text), value(2), line(2))[1:], [[1], [2, 4, 4, 4, 0, 2, 3, 1, 2]])
        # The value for goal 1 is 2, by the order now; at the end team 0 wins.
        text = match_text("1 2 3 9", "draw", "R1 B1 B2 R2", "R", 1, ["R2 B2"])
        self.assertEqual(ask(load(text), value(1), line(1))[1:], [[2], [1, 4, 4, 0, 2, 1, 3, 1]])

    def test_for_goal_0_the_result_is_the_value(self):
        for match in [THREE_VALUES] + [told[0] for told in THREE_BESTS]:
            told = ask(load(match.text()), value(0), line(0))
            self.assertEqual(told[1][0], told[2][-1])

    def test_no_turns_left(self):
        match = load(match_text("1 2 3 4", "draw", "B2 R1 R2 B1", left=0))
        self.assertEqual(for_goals(match, line), [[0, 4, 3, 0, 1, 2, 0]] * 3)
        match = load(match_text("1 2 3 4 5 6", "draw", "B3 R1 R2 B1 R3 B2", left=0))
        self.assertEqual(for_goals(match, line), [[0, 6, 5, 0, 1, 3, 2, 4, 1]] * 3)


class AgainstAnotherWay(unittest.TestCase):
    def check(self, match):
        for goal in GOALS:
            with self.subTest(match=match.text(), goal=goal):
                calls = [value(goal), values(goal), line(goal)]
                wanted = [[match.value(goal)], match.values(goal), match.play(goal, "RB")]
                if match.left > 0:
                    calls.append(best(goal))
                    wanted.append(match.best(goal))
                self.assertEqual(ask(load(match.text()), *calls)[1:], wanted)

    def test_told_matches(self):
        for match in [THREE_VALUES] + [told[0] for told in THREE_BESTS]:
            self.check(match)

    def test_two_boats_a_team(self):
        for match in some_matches(random.Random(2), 180, 2, (0, 1, 2, 3, 4)):
            self.check(match)

    def test_three_boats_a_team(self):
        for match in some_matches(random.Random(3), 90, 3, (0, 1, 2, 3)):
            self.check(match)

    def test_the_most_turns_left(self):
        for match in some_matches(random.Random(4), 3, 2, (7,)):
            self.check_value(match)
        for match in some_matches(random.Random(5), 3, 3, (5,)):
            self.check_value(match)

    def check_value(self, match):
        for goal in GOALS:
            with self.subTest(match=match.text(), goal=goal):
                self.assertEqual(ask_last(load(match.text()), value(goal)), [match.value(goal)])


class TooManyPositions(unittest.TestCase):
    CALLS = [call for goal in GOALS for call in (value(goal), best(goal), values(goal), line(goal))]

    def test_the_most_turns_that_are_answered(self):
        for boats, left in ((2, 7), (3, 5)):
            for turn in ("R", "B"):
                told = ask(full_match(boats, left, turn), *self.CALLS)[1:]
                for answer in told:
                    self.assertGreaterEqual(answer[0], 0)
                for goal in GOALS:
                    one, two, three, four = told[4 * goal:4 * goal + 4]
                    self.assertEqual([len(one), len(two), three[0]], [1, 2, 2 * boats])
                    self.assertEqual(one[0], two[1])
                    self.assertEqual(four[:2], [left, two[0]])

    def test_one_turn_more(self):
        for boats, left in ((2, 8), (3, 6), (2, 20), (3, 20)):
            told = ask(full_match(boats, left), *self.CALLS)[1:]
            self.assertEqual(told, [[-7]] * len(self.CALLS))

    def test_it_hangs_on_the_turns_left_not_on_the_moves_that_may_be_made(self):
        self.assertEqual(ask_last(load(match_text("1 2 3 4", left=8)), value(0)), [-7])
        self.assertEqual(ask_last(load(match_text("1 2 3 4 5 6", left=6)), value(0)), [-7])

    def test_a_move_may_make_them_few_enough(self):
        told = ask(full_match(2, 8), value(0), move(0), value(0), UNDO, value(0))
        self.assertEqual([told[1], told[5]], [[-7], [-7]])
        self.assertEqual(told[3], ask_last(full_match(2, 7, "B"), value(0)))


class WrongGoals(unittest.TestCase):
    def test_each_call(self):
        for left in (0, 1, 4, 8, 20):
            for goal in (-1, 3, 4, 100, 2147483647, -2147483648):
                for call in (value(goal), best(goal), values(goal), line(goal), duel(goal, 0, []), duel(goal, 9, [7])):
                    self.assertEqual(ask_last(full_match(2, left), call), [-2])

    def test_no_match(self):
        for goal in (0, 1, 2, 3, -1):
            for call in (value(goal), best(goal), values(goal), line(goal)):
                self.assertEqual(ask_last(call), [-1])


class NothingIsChanged(unittest.TestCase):
    def test_by_answers_and_by_refusals(self):
        text = match_text("1 2 3 4", left=5, cans=["R2 B1", "B1 R1", "B2 R2"])
        for goal in (0, 1, 2, 3):
            for call in (value(goal), best(goal), values(goal), line(goal)):
                told = ask(load(text), TEXT, move(3), move(0), TEXT, call, TEXT, UNDO, UNDO, TEXT, UNDO)
                self.assertEqual(told[4], told[6])
                self.assertEqual(told[7:9], [[1], [0]])
                self.assertEqual(told[9], told[1])
                self.assertEqual(told[10], [-6])

    def test_the_same_again(self):
        calls = [call for goal in GOALS for call in (value(goal), best(goal), values(goal), line(goal))]
        told = ask(full_match(3, 4), *calls, *reversed(calls))[1:]
        self.assertEqual(told[:len(calls)], list(reversed(told[len(calls):])))

    def test_too_many_positions_leave_what_can_be_taken_back(self):
        for call in (value(0), best(0), values(0), line(0), duel(0, 0, [])):
            told = ask(full_match(2, 20), TEXT, move(101), call, UNDO, TEXT)
            self.assertEqual(told[3:5], [[-7], [0]])
            self.assertEqual(told[5], told[1])


if __name__ == "__main__":
    unittest.main()
