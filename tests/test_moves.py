"""Promises 8 to 10: moves, move, undo."""

import unittest

from tests.calling import MOVES, RESULT, TEXT, UNDO, ask, ask_last, as_text, load, match_text, move, text_now

NAMES = ["R1", "R2", "R3", "B1", "B2", "B3"]


def all_pairs(names):
    return [a + " " + b for a in names for b in names if a != b]


def order_now(*calls):
    return text_now(*calls).splitlines()[3]


class Moves(unittest.TestCase):
    def moves(self, order, turn="R", cans=(), left=4):
        points = "1 2 3 4" if len(order.split()) == 4 else "1 2 3 4 5 6"
        told = ask_last(load(match_text(points, "draw", order, turn, left, cans)), MOVES)
        self.assertEqual(told[0], len(told) - 1)
        return told[1:]

    def test_without_can_lines_just_nothing_and_letting_by(self):
        self.assertEqual(self.moves("R1 B1 R2 B2"), [0, 101, 103])
        self.assertEqual(self.moves("R1 B1 R2 B2", "B"), [0, 102])

    def test_a_pass_of_a_boat_of_the_other_team(self):
        self.assertEqual(self.moves("R1 B1 R2 B2", cans=["R2 B1"]), [0, 3, 101, 103])
        self.assertEqual(self.moves("R1 B1 R2 B2", "B", ["B1 R1", "B2 R2"]), [0, 2, 4, 102])

    def test_a_pass_of_a_boat_of_one_s_own_team(self):
        self.assertEqual(self.moves("R1 R2 B1 B2", cans=["R2 R1"]), [0, 2, 101, 102])
        self.assertEqual(self.moves("R1 R2 B1 B2", "B", ["B2 B1"]), [0, 4, 103])

    def test_can_is_told_of_the_one_right_ahead_and_one_way(self):
        self.assertEqual(self.moves("R1 B1 R2 B2", cans=["B1 R2", "R1 B1", "R2 R1", "R2 B2"]), [0, 101, 103])

    def test_just_the_team_whose_turn_it_is_moves(self):
        cans = all_pairs(["R1", "R2", "B1", "B2"])
        self.assertEqual(self.moves("R1 R2 B1 B2", "R", cans), [0, 2, 101, 102])
        self.assertEqual(self.moves("R1 R2 B1 B2", "B", cans), [0, 3, 4, 103])

    def test_the_first_and_the_last_place(self):
        cans = all_pairs(["R1", "R2", "B1", "B2"])
        self.assertEqual(self.moves("R1 B1 B2 R2", "R", cans), [0, 4, 101])
        self.assertEqual(self.moves("B1 R1 R2 B2", "R", cans), [0, 2, 3, 102, 103])

    def test_three_boats_a_team(self):
        cans = all_pairs(NAMES)
        self.assertEqual(self.moves("B1 R1 B2 R2 B3 R3", "R", cans), [0, 2, 4, 6, 102, 104])
        self.assertEqual(self.moves("B1 R1 B2 R2 B3 R3", "B", cans), [0, 3, 5, 101, 103, 105])
        self.assertEqual(self.moves("R1 R2 R3 B1 B2 B3", "B", cans), [0, 4, 5, 6, 104, 105])

    def test_none_if_no_turns_are_left(self):
        text = match_text("1 2 3 4", left=0, cans=["R2 B1"])
        self.assertEqual(ask_last(load(text), MOVES), [0])
        text = match_text("1 2 3 4", left=1, cans=["R2 B1"])
        self.assertEqual(ask_last(load(text), move(0), MOVES), [0])

    def test_as_they_are_now(self):
        text = match_text("1 2 3 4", left=3, cans=["R2 B1", "B1 R2"])
        self.assertEqual(ask(load(text), MOVES, move(3), MOVES, move(3), MOVES, UNDO, MOVES)[1:],
                         [[4, 0, 3, 101, 103], [1], [3, 0, 3, 103], [1], [4, 0, 3, 101, 103], [1], [3, 0, 3, 103]])

    def test_no_match(self):
        self.assertEqual(ask_last(MOVES), [-1])


class Move(unittest.TestCase):
    def test_doing_nothing(self):
        before = match_text("1 2 3 4", left=4)
        behind = match_text("1 2 3 4", turn="B", left=3)
        told = ask(load(before), move(0), TEXT)
        self.assertEqual(told[1], [1])
        self.assertEqual(as_text(told[2]), behind)

    def test_doing_nothing_from_the_other_side(self):
        before = match_text("1 2 3 4", turn="B", left=20)
        self.assertEqual(text_now(load(before), move(0)), match_text("1 2 3 4", turn="R", left=19))

    def check(self, order, turn, number, behind):
        names = order.split()
        points = "1 2 3 4" if len(names) == 4 else "1 2 3 4 5 6"
        cans = all_pairs(names)
        before = match_text(points, "draw", order, turn, 2, cans)
        other = "B" if turn == "R" else "R"
        self.assertEqual(text_now(load(before), move(number)), match_text(points, "draw", behind, other, 1, cans))

    def test_passes_at_each_place(self):
        self.check("B1 R1 R2 B2", "R", 2, "R1 B1 R2 B2")
        self.check("B1 R1 R2 B2", "R", 3, "B1 R2 R1 B2")
        self.check("B1 R1 R2 B2", "B", 4, "B1 R1 B2 R2")
        self.check("R1 B1 R2 B2 R3 B3", "B", 2, "B1 R1 R2 B2 R3 B3")
        self.check("R1 B1 R2 B2 R3 B3", "R", 5, "R1 B1 R2 R3 B2 B3")
        self.check("R1 B1 R2 B2 R3 B3", "B", 6, "R1 B1 R2 B2 B3 R3")

    def test_letting_by_at_each_place(self):
        self.check("B1 R1 R2 B2", "B", 101, "R1 B1 R2 B2")
        self.check("B1 R1 R2 B2", "R", 102, "B1 R2 R1 B2")
        self.check("B1 R1 R2 B2", "R", 103, "B1 R1 B2 R2")
        self.check("R1 B1 R2 B2 R3 B3", "R", 101, "B1 R1 R2 B2 R3 B3")
        self.check("R1 B1 R2 B2 R3 B3", "B", 104, "R1 B1 R2 R3 B2 B3")
        self.check("R1 B1 R2 B2 R3 B3", "R", 105, "R1 B1 R2 B2 B3 R3")

    def test_letting_by_needs_no_can_line(self):
        text = match_text("1 2 3 4")
        self.assertEqual(order_now(load(text), move(101)), "order B1 R1 R2 B2")
        text = match_text("1 2 3 4", order="R1 R2 B1 B2")
        self.assertEqual(order_now(load(text), move(101)), "order R2 R1 B1 B2")

    def test_the_result_of_the_order_behind_it(self):
        self.assertEqual(ask(load(match_text("1 2 3 4")), RESULT, move(101), RESULT)[1:],
                         [[1, 4, 6], [0], [0, 5, 5]])
        self.assertEqual(ask_last(load(match_text("1 2 3 4", order="R1 B1 B2 R2")), move(101)), [2])
        self.assertEqual(ask_last(load(match_text("1 2 3 4", "first", left=1)), move(101)), [1])
        self.assertEqual(ask_last(load(match_text("1 2 3 4", "last", left=1)), move(101)), [1])

    def test_moves_that_may_not_be_made(self):
        text = match_text("1 2 3 4", order="R1 B1 R2 B2", cans=["R2 B1", "B2 R2", "B1 R1"])
        for number in (-1, 1, 2, 4, 5, 6, 99, 100, 102, 104, 105, 203, -3, -101, 2147483647, -2147483648):
            told = ask(load(text), move(number), TEXT, UNDO)
            self.assertEqual(told[1], [-3])
            self.assertEqual(as_text(told[2]), text)
            self.assertEqual(told[3], [-6])

    def test_the_first_and_last_places_of_three_boats(self):
        text = match_text("1 2 3 4 5 6", order="R1 B1 B2 B3 R2 R3", cans=all_pairs(NAMES))
        for number in (1, 7, 100, 106, 107):
            self.assertEqual(ask_last(load(text), move(number)), [-3])
        for number in (0, 5, 6, 101, 105):
            self.assertEqual(ask_last(load(text), move(number), UNDO), [0])

    def test_a_pass_without_its_can_line(self):
        self.assertEqual(ask_last(load(match_text("1 2 3 4", cans=["R1 B1", "R2 B2"])), move(3)), [-3])

    def test_no_turns_left(self):
        text = match_text("1 2 3 4", left=0)
        told = ask(load(text), move(0), move(101), TEXT)
        self.assertEqual(told[1:3], [[-5], [-5]])
        self.assertEqual(as_text(told[3]), text)

    def test_no_turns_left_is_looked_at_ahead_of_the_move(self):
        self.assertEqual(ask_last(load(match_text("1 2 3 4", left=0)), move(77)), [-5])
        self.assertEqual(ask_last(load(match_text("1 2 3 4", left=1)), move(0), move(77)), [-5])
        self.assertEqual(ask_last(load(match_text("1 2 3 4", left=1)), move(77)), [-3])

    def test_to_the_end(self):
        told = ask(load(match_text("1 2 3 4", left=20)), *[move(0)] * 21)
        self.assertEqual(told[1:21], [[1]] * 20)
        self.assertEqual(told[21], [-5])

    def test_no_match(self):
        self.assertEqual(ask_last(move(0)), [-1])
        self.assertEqual(ask_last(move(-7)), [-1])


class Undo(unittest.TestCase):
    def test_to_the_first_move_and_beyond(self):
        text = match_text("1 2 3 4", left=3, cans=["R2 B1", "B2 B1"])
        told = ask(load(text), TEXT, move(3), TEXT, move(4), TEXT, move(101), UNDO, TEXT, UNDO, TEXT, UNDO, TEXT, UNDO,
                   UNDO, TEXT)
        self.assertEqual([told[7], told[9], told[11], told[13], told[14]], [[2], [1], [0], [-6], [-6]])
        self.assertEqual(told[8], told[5])
        self.assertEqual(told[10], told[3])
        self.assertEqual(told[12], told[1])
        self.assertEqual(told[15], told[1])

    def test_moves_made_behind_an_undo(self):
        text = match_text("1 2 3 4", left=3)
        told = ask(load(text), move(101), move(101), UNDO, move(0), UNDO, UNDO, UNDO, TEXT)
        self.assertEqual(told[3:8], [[1], [0], [1], [0], [-6]])
        self.assertEqual(as_text(told[8]), text)

    def test_order_turn_and_left_are_as_before(self):
        text = match_text("1 2 3 4 5 6", turn="B", left=20)
        for number in (0, 102, 104):
            self.assertEqual(text_now(load(text), move(number), UNDO), text)

    def test_a_refused_move_is_not_taken_back(self):
        text = match_text("1 2 3 4", left=1)
        told = ask(load(text), move(101), move(0), UNDO, move(9), UNDO, TEXT)
        self.assertEqual(told[2:6], [[-5], [0], [-3], [-6]])
        self.assertEqual(as_text(told[6]), text)

    def test_twenty_moves(self):
        text = match_text("1 2 3 4", left=20)
        told = ask(load(text), *[move(0)] * 20, *[UNDO] * 21)
        self.assertEqual(told[21:], [[k] for k in range(19, -1, -1)] + [[-6]])

    def test_none_behind_a_load(self):
        text = match_text("1 2 3 4")
        self.assertEqual(ask_last(load(text), UNDO), [-6])
        told = ask(load(text), move(101), load(text), UNDO, TEXT)
        self.assertEqual(told[3], [-6])
        self.assertEqual(as_text(told[4]), text)

    def test_moves_behind_a_load_alone(self):
        text = match_text("1 2 3 4")
        self.assertEqual(ask(load(text), move(101), load(text), move(0), UNDO, UNDO)[4:], [[0], [-6]])

    def test_no_match(self):
        self.assertEqual(ask_last(UNDO), [-1])


if __name__ == "__main__":
    unittest.main()
