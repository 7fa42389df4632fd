"""Promises 16 to 20: swap, can, cannot, order, left; what they do to the text and to what can be taken back."""

import itertools
import random
import unittest

from tests.calling import (MOVES, RESULT, SWAP, TEXT, UNDO, ask, ask_last, as_text, best, can, cannot, left, line, load,
                           match_text, move, order, text_now, value, values)
from tests.paths import some_matches

GOALS = (0, 1, 2)
FAR = (2147483647, -2147483648)
# All that hangs on how the match stands.
LOOKS = [TEXT, RESULT, MOVES] + [call for goal in GOALS for call in (value(goal), best(goal), values(goal), line(goal))]
# For a result: what it is when the teams are exchanged.
EXCHANGED = {0: 0, 1: 2, 2: 1}

PAIR = match_text("1 2 3 4", cans=["R2 B1", "B1 B2"])
TRIO = match_text("1 2 3 8 9 13", "last", "R3 B1 B2 R1 B3 R2", "B", 3, ["R3 B1", "B2 B1", "R1 B3"])


class Changes(unittest.TestCase):
    def leads_to(self, text, calls, answers, behind):
        """These calls are answered so, and then the match is the one with that text."""
        told = ask(load(text), *calls, *LOOKS)[1:]
        self.assertEqual(told[:len(calls)], answers)
        self.assertEqual(as_text(told[len(calls)]), behind)
        self.assertEqual(told[len(calls):], ask(load(behind), *LOOKS)[1:])

    def refused(self, text, call, refusal):
        """It is refused, and neither the match nor what can be taken back is changed."""
        told = ask(load(text), TEXT, move(0), TEXT, call, TEXT, UNDO, TEXT, UNDO)
        self.assertEqual(told[4], [refusal])
        self.assertEqual(told[5], told[3])
        self.assertEqual(told[6], [0])
        self.assertEqual(told[7], told[1])
        self.assertEqual(told[8], [-6])


class Swap(Changes):
    def test_two_boats_a_team(self):
        self.leads_to(PAIR, [SWAP], [[0]],
                      match_text("1 2 3 4", order="B1 R1 B2 R2", turn="B", cans=["B2 R1", "R1 R2"]))

    def test_three_boats_a_team(self):
        self.leads_to(TRIO, [SWAP], [[0]],
                      match_text("1 2 3 8 9 13", "last", "B3 R1 R2 B1 R3 B2", "R", 3, ["B3 R1", "R2 R1", "B1 R3"]))

    def test_points_ties_and_turns_left_stay(self):
        for tie in ("draw", "first", "last"):
            text = match_text("0 7 8 9", tie, "R1 R2 B2 B1", "B", 20)
            self.assertEqual(text_now(load(text), SWAP), match_text("0 7 8 9", tie, "B1 B2 R2 R1", "R", 20))

    def test_twice_is_as_before(self):
        for text in (PAIR, TRIO):
            self.leads_to(text, [SWAP, SWAP], [[0], [0]], text)

    def test_the_same_boats_are_to_move(self):
        for text in (PAIR, TRIO):
            told = ask(load(text), MOVES, SWAP, MOVES)
            self.assertEqual(told[1], told[3])

    def test_the_result_and_the_points_are_exchanged(self):
        self.assertEqual(ask(load(PAIR), RESULT, SWAP, RESULT)[1:], [[1, 4, 6], [0], [2, 6, 4]])

    def test_values_are_exchanged(self):
        """What is worst for the one team is best for the other: so goals 1 and 2 are exchanged too."""
        for match in some_matches(random.Random(10), 45, 2, (1, 2, 3, 4)):
            told = ask(load(match.text()), best(0), best(1), best(2), SWAP, best(0), best(2), best(1))
            self.assertEqual([[number, EXCHANGED[result]] for number, result in told[1:4]], told[5:])

    def test_a_tie_goes_with_the_place_not_with_the_team(self):
        text = match_text("1 2 3 4", "first", "R1 B1 B2 R2")
        self.assertEqual(ask(load(text), RESULT, SWAP, RESULT)[1:], [[2, 5, 5], [0], [1, 5, 5]])

    def test_behind_moves(self):
        text = text_now(load(PAIR), move(3))
        self.assertEqual(text_now(load(PAIR), move(3), SWAP), text_now(load(text), SWAP))

    def test_no_match(self):
        self.assertEqual(ask_last(SWAP), [-1])


class Can(Changes):
    def test_a_pair_of_two_teams(self):
        self.leads_to(PAIR, [can(3, 1)], [[3]], match_text("1 2 3 4", cans=["R2 B1", "B1 B2", "B2 R2"]))
        self.leads_to(TRIO, [can(2, 3 + 2)], [[4]],
                      match_text("1 2 3 8 9 13", "last", "R3 B1 B2 R1 B3 R2", "B", 3,
                                 ["R3 B1", "B2 B1", "R1 B3", "R3 B3"]))

    def test_a_pair_of_one_team(self):
        self.leads_to(PAIR, [can(0, 1), can(3, 2)], [[3], [4]],
                      match_text("1 2 3 4", cans=["R2 B1", "B1 B2", "R1 R2", "B2 B1"]))

    def test_the_first_pair(self):
        text = match_text("1 2 3 4")
        self.leads_to(text, [can(1, 2)], [[1]], match_text("1 2 3 4", cans=["R2 B1"]))

    def test_a_move_may_be_made_that_might_not(self):
        text = match_text("1 2 3 4", order="R1 B1 B2 R2", left=1)
        told = ask(load(text), MOVES, best(0), can(1, 3), MOVES, best(0), move(4))
        self.assertEqual(told[1:], [[2, 0, 101], [0, 0], [1], [3, 0, 4, 101], [4, 1], [1]])

    def test_the_other_way_round_is_another_pair(self):
        self.assertEqual(ask(load(PAIR), can(2, 1), can(3, 2), can(2, 1))[1:], [[3], [4], [-4]])

    def test_every_pair(self):
        for boats, points in ((2, "1 2 3 4"), (3, "1 2 3 4 5 6")):
            pairs = list(itertools.permutations(range(2 * boats), 2))
            told = ask(load(match_text(points)), *[can(*pair) for pair in pairs], *[can(*pair) for pair in pairs])
            self.assertEqual(told[1:], [[k] for k in range(1, len(pairs) + 1)] + [[-4]] * len(pairs))

    def test_no_boat_s_number(self):
        for number in (-1, 4, 5, 100) + FAR:
            self.refused(PAIR, can(0, number), -2)
            self.refused(PAIR, can(number, 0), -2)
            self.refused(PAIR, can(number, number), -2)
        for number in (-1, 6, 7) + FAR:
            self.refused(TRIO, can(5, number), -2)
            self.refused(TRIO, can(number, 5), -2)

    def test_the_same_boat(self):
        for boat in range(4):
            self.refused(PAIR, can(boat, boat), -2)
        for boat in range(6):
            self.refused(TRIO, can(boat, boat), -2)

    def test_it_can_already(self):
        self.refused(PAIR, can(1, 2), -4)
        self.refused(PAIR, can(2, 3), -4)
        self.assertEqual(ask(load(PAIR), can(0, 3), can(0, 3))[1:], [[3], [-4]])

    def test_no_match(self):
        for call in (can(0, 1), can(0, 0), can(-1, 9)):
            self.assertEqual(ask_last(call), [-1])


class Cannot(Changes):
    def test_each_of_several(self):
        cans = ["R2 B1", "B1 B2", "R1 B2"]
        text = match_text("1 2 3 4", cans=cans)
        for k, pair in enumerate([(1, 2), (2, 3), (0, 3)]):
            self.leads_to(text, [cannot(*pair)], [[2]], match_text("1 2 3 4", cans=cans[:k] + cans[k + 1:]))

    def test_three_boats_a_team(self):
        self.leads_to(TRIO, [cannot(4, 3)], [[2]],
                      match_text("1 2 3 8 9 13", "last", "R3 B1 B2 R1 B3 R2", "B", 3, ["R3 B1", "R1 B3"]))

    def test_the_last_pair(self):
        self.leads_to(PAIR, [cannot(2, 3), cannot(1, 2)], [[1], [0]], match_text("1 2 3 4"))

    def test_a_move_may_not_be_made_any_more(self):
        text = match_text("1 2 3 4", order="R1 B1 B2 R2", left=1, cans=["R2 B2"])
        told = ask(load(text), MOVES, best(0), cannot(1, 3), MOVES, best(0), move(4))
        self.assertEqual(told[1:], [[3, 0, 4, 101], [4, 1], [0], [2, 0, 101], [0, 0], [-3]])

    def test_lines_in_the_order_in_which_they_came(self):
        self.leads_to(PAIR, [cannot(1, 2), can(1, 2)], [[1], [2]], match_text("1 2 3 4", cans=["B1 B2", "R2 B1"]))
        self.leads_to(PAIR, [can(0, 1), cannot(2, 3), can(3, 0), can(2, 3)], [[3], [2], [3], [4]],
                      match_text("1 2 3 4", cans=["R2 B1", "R1 R2", "B2 R1", "B1 B2"]))
        self.leads_to(PAIR, [cannot(1, 2), SWAP, can(1, 2)], [[1], [0], [2]],
                      match_text("1 2 3 4", order="B1 R1 B2 R2", turn="B", cans=["R1 R2", "R2 B1"]))

    def test_it_could_not(self):
        for pair in ((2, 1), (3, 2), (0, 1), (0, 3)):
            self.refused(PAIR, cannot(*pair), -4)
        self.refused(match_text("1 2 3 4"), cannot(0, 1), -4)
        self.assertEqual(ask(load(PAIR), cannot(1, 2), cannot(1, 2))[1:], [[1], [-4]])

    def test_no_boat_s_number(self):
        for number in (-1, 4, 5, 100) + FAR:
            self.refused(PAIR, cannot(1, number), -2)
            self.refused(PAIR, cannot(number, 2), -2)
        for number in (-1, 6, 7) + FAR:
            self.refused(TRIO, cannot(5, number), -2)
            self.refused(TRIO, cannot(number, 5), -2)

    def test_the_same_boat(self):
        for boat in range(4):
            self.refused(PAIR, cannot(boat, boat), -2)

    def test_no_match(self):
        for call in (cannot(0, 1), cannot(0, 0), cannot(-1, 9)):
            self.assertEqual(ask_last(call), [-1])


class Order(Changes):
    def test_two_boats_a_team(self):
        self.leads_to(PAIR, [order([3, 0, 2, 1])], [[0]],
                      match_text("1 2 3 4", order="B2 R1 B1 R2", cans=["R2 B1", "B1 B2"]))

    def test_three_boats_a_team(self):
        self.leads_to(TRIO, [order([5, 0, 4, 1, 3, 2])], [[0]],
                      match_text("1 2 3 8 9 13", "last", "B3 R1 B2 R2 B1 R3", "B", 3, ["R3 B1", "B2 B1", "R1 B3"]))

    def test_every_order(self):
        names = ["R1", "R2", "B1", "B2"]
        for boats in itertools.permutations(range(4)):
            wanted = match_text("1 2 3 4", order=" ".join(names[boat] for boat in boats), cans=["R2 B1", "B1 B2"])
            self.assertEqual(text_now(load(PAIR), order(boats)), wanted)

    def test_the_order_that_stands_already(self):
        self.leads_to(PAIR, [order([0, 2, 1, 3])], [[0]], PAIR)

    def test_moves_behind_it(self):
        told = ask(load(PAIR), order([2, 1, 0, 3]), move(2), TEXT, UNDO, TEXT)
        self.assertEqual(told[1:3], [[0], [1]])
        self.assertEqual(as_text(told[3]).splitlines()[3], "order R2 B1 R1 B2")
        self.assertEqual(told[4], [0])
        self.assertEqual(as_text(told[5]).splitlines()[3], "order B1 R2 R1 B2")

    def test_rows_that_are_no_order(self):
        for row in ([], [0], [0, 1, 2], [0, 1, 2, 2], [0, 1, 2, 4], [1, 2, 3, 4], [-1, 0, 1, 2], [0, 1, 2, 3, 3],
                    [0, 1, 2, 3, 4], [0, 1, 2, 3, 4, 5], [0, 0, 0, 0], [0, 1, 2, FAR[0]], [FAR[1], 1, 2, 3],
                    [0, 1, 2, 3] * 250):
            self.refused(PAIR, order(row), -3)
        for row in ([0, 1, 2, 3], [0, 1, 2, 3, 4, 4], [0, 1, 2, 3, 4, 6], [0, 1, 2, 3, 4, 5, 5], [1, 2, 3, 4, 5, 6]):
            self.refused(TRIO, order(row), -3)

    def test_no_match(self):
        for call in (order([0, 1, 2, 3]), order([]), order([9])):
            self.assertEqual(ask_last(call), [-1])


class Left(Changes):
    def test_team_and_turns(self):
        for team in (0, 1):
            for turns in (0, 1, 2, 5, 7):
                self.leads_to(PAIR, [left(team, turns)], [[0]],
                              match_text("1 2 3 4", turn="RB"[team], left=turns, cans=["R2 B1", "B1 B2"]))
                self.leads_to(TRIO, [left(team, turns)], [[0]],
                              match_text("1 2 3 8 9 13", "last", "R3 B1 B2 R1 B3 R2", "RB"[team], turns,
                                         ["R3 B1", "B2 B1", "R1 B3"]))

    def test_none_left(self):
        told = ask(load(PAIR), left(1, 0), MOVES, move(0), value(0), best(0), values(0), line(0))[1:]
        self.assertEqual(told, [[0], [0], [-5], [1], [-5], [0], [0, 4, 0, 2, 1, 3, 1]])

    def test_twenty_left(self):
        told = ask(load(PAIR), left(1, 20), MOVES, value(0), best(0), TEXT, move(0), *[move(0)] * 19, move(0))[1:]
        self.assertEqual(told[:4], [[0], [2, 0, 102], [-7], [-7]])
        self.assertEqual(as_text(told[4]).splitlines()[4:6], ["turn B", "left 20"])
        self.assertEqual(told[5:], [[1]] * 20 + [[-5]])

    def test_more_turns_at_the_end(self):
        text = match_text("1 2 3 4", left=0, cans=["R2 B1", "B1 B2"])
        self.leads_to(text, [left(0, 4)], [[0]], PAIR)

    def test_as_it_stands_already(self):
        self.leads_to(PAIR, [left(0, 4)], [[0]], PAIR)

    def test_no_such_team(self):
        for team in (-1, 2, 3) + FAR:
            self.refused(PAIR, left(team, 4), -2)
            self.refused(PAIR, left(team, 21), -2)

    def test_too_many_or_too_few_turns(self):
        for turns in (-1, 21, 22, 100) + FAR:
            for team in (0, 1):
                self.refused(PAIR, left(team, turns), -2)
                self.refused(TRIO, left(team, turns), -2)

    def test_no_match(self):
        for call in (left(0, 4), left(2, 4), left(0, -1)):
            self.assertEqual(ask_last(call), [-1])


class TakingBack(unittest.TestCase):
    CALLS = [load(PAIR), SWAP, can(0, 3), cannot(1, 2), order([3, 2, 1, 0]), order([0, 2, 1, 3]), left(0, 4), left(1, 2)]

    def test_nothing_behind_each(self):
        for call in self.CALLS:
            told = ask(load(PAIR), move(3), move(0), call, TEXT, UNDO, TEXT)
            self.assertGreaterEqual(told[3][0], 0)
            self.assertEqual(told[5], [-6])
            self.assertEqual(told[4], told[6])

    def test_moves_behind_each_can_be_taken_back(self):
        for call in self.CALLS:
            told = ask(load(PAIR), move(0), call, TEXT, move(0), move(0), UNDO, UNDO, TEXT, UNDO)
            self.assertEqual(told[6:8], [[1], [0]])
            self.assertEqual(told[8], told[3])
            self.assertEqual(told[9], [-6])

    def test_the_pairs_stay_when_a_move_is_taken_back(self):
        told = ask(load(PAIR), can(3, 1), TEXT, move(0), UNDO, TEXT)
        self.assertEqual(told[2], told[5])


class Several(Changes):
    def test_one_behind_another(self):
        self.leads_to(PAIR, [can(3, 0), SWAP, move(2), order([2, 0, 1, 3]), cannot(3, 0), left(0, 5), SWAP, move(0)],
                      [[3], [0], [-3], [0], [2], [0], [0], [0]],
                      match_text("1 2 3 4", order="R1 B1 B2 R2", turn="R", left=4, cans=["B1 B2", "B2 R1"]))


if __name__ == "__main__":
    unittest.main()
