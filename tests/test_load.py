"""Promise 0: load, and what "The text" says."""

import unittest

from tests.calling import RESULT, TEXT, UNDO, ask, ask_last, as_text, load, match_text, move, text_now

TWO = match_text("1 2 3 4")
TWO_LINES = TWO.splitlines()
THREE_LINES = match_text("1 2 3 4 5 6").splitlines()


def load_lines(lines):
    return ask_last(load("".join(line + "\n" for line in lines)))


def with_line(number, line, lines=TWO_LINES):
    """The lines, with another one in the place of the one with that number."""
    return lines[:number - 1] + [line] + lines[number:]


class RightTexts(unittest.TestCase):
    def right(self, text, boats=2):
        self.assertEqual(ask_last(load(text)), [boats])

    def test_answers_how_many_boats_a_team_has(self):
        self.right(TWO, 2)
        self.right(match_text("1 2 3 4 5 6"), 3)

    def test_a_last_line_that_is_not_ended(self):
        self.right(TWO[:-1])
        self.right(TWO + "can R1 B1")
        self.right(TWO + "# a remark")
        self.assertEqual(text_now(load(TWO[:-1])), TWO)

    def test_lines_that_mean_nothing(self):
        lines = ["", "#", "# a remark"]
        for line in TWO_LINES:
            lines += [line, "", "#" + line, "# \x00\xff%"]
        text = "".join(line + "\n" for line in lines) + "\n\n"
        self.right(text)
        self.assertEqual(text_now(load(text)), TWO)

    def test_points_of_one_to_four_digits(self):
        self.right(match_text("0 10 999 9999"))
        self.right(match_text("1 22 333 4444"))
        self.right(match_text("9994 9995 9996 9997 9998 9999"), 3)

    def test_ties_turns_and_turns_left(self):
        for tie in ("draw", "first", "last"):
            for turn in ("R", "B"):
                for left in (0, 1, 9, 10, 19, 20):
                    text = match_text("1 2 3 4", tie, turn=turn, left=left)
                    self.assertEqual(text_now(load(text)), text)

    def test_can_lines_of_two_teams_and_of_one(self):
        cans = ("R1 B1", "B1 R1", "R1 R2", "B2 B1")
        text = match_text("1 2 3 4", cans=cans)
        self.assertEqual(text_now(load(text)), text)

    def test_every_pair_of_unlike_boats(self):
        names = ["R1", "R2", "R3", "B1", "B2", "B3"]
        cans = [a + " " + b for a in names for b in names if a != b]
        text = match_text("1 2 3 4 5 6", cans=cans)
        self.assertEqual(text_now(load(text)), text)

    def test_orders_by_name(self):
        text = match_text("1 2 3 4 5 6", order="B3 R2 B1 R3 R1 B2")
        self.assertEqual(text_now(load(text)), text)

    def test_a_later_load_takes_the_place_of_the_match(self):
        three = match_text("1 2 3 4 5 6", "last", turn="B", left=7, cans=["B3 R1"])
        self.assertEqual(text_now(load(TWO), load(three)), three)
        cans = match_text("1 2 3 4", cans=["R1 B1"])
        self.assertEqual(text_now(load(cans), load(TWO)), TWO)


class Lengths(unittest.TestCase):
    def padded(self, size):
        text = TWO + "#"
        return text + "x" * (size - len(text))

    def test_2000_bytes_are_right(self):
        self.assertEqual(ask_last(load(self.padded(2000))), [2])

    def test_2001_bytes_are_too_many(self):
        self.assertEqual(ask_last(load(self.padded(2001))), [-8])
        self.assertEqual(ask_last(load(self.padded(10000))), [-8])

    def test_the_length_is_looked_at_ahead_of_the_lines(self):
        self.assertEqual(ask_last(load("x" * 2000)), [-1001])
        self.assertEqual(ask_last(load("x" * 2001)), [-8])


class WrongLines(unittest.TestCase):
    def wrong(self, number, line, lines=TWO_LINES):
        with self.subTest(line=line):
            self.assertEqual(load_lines(with_line(number, line, lines)), [-1000 - number])

    def test_boats(self):
        for line in ("boats 1", "boats 4", "boats 0", "boats 02", "boats 22", "boats", "boats ", "boats x",
                     "boats 2 ", "boats  2", " boats 2", "boats 2 3", "Boats 2", "boat 2", "boats2", "boats -2"):
            self.wrong(1, line)

    def test_points(self):
        for line in ("points 1 2 3", "points 1 2 3 4 5", "points 1 2 3 4 5 6", "points", "points 1 2 3 3",
                     "points 1 1 2 3", "points 2 1 3 4", "points 1 2 4 3", "points 01 2 3 4", "points 1 2 3 04",
                     "points 00 2 3 4", "points 1 2 3 10000", "points 0001 2 3 4", "points 1 2 3 x", "points -1 2 3 4",
                     "points 1 2  3 4", "points 1 2 3 4 ", "points 1,2,3,4", "points 1 2 3 +4", "points 1 2 3 1_0",
                     "points 1 2 3 \xb2", "points 1 2 3\t4", "point 1 2 3 4"):
            self.wrong(2, line)
        self.wrong(2, "points 1 2 3 4", THREE_LINES)
        self.wrong(2, "points 1 2 3 4 5 5", THREE_LINES)

    def test_tie(self):
        for line in ("tie", "tie ", "tie second", "tie Draw", "tie draw ", "tie draw first", "tie  draw", "ties draw",
                     "tie draws", "tie dra", "tie ?"):
            self.wrong(3, line)

    def test_order(self):
        for line in ("order", "order R1 B1 R2", "order R1 B1 R2 B2 B2", "order R1 B1 R2 R2", "order R1 B1 R2 R3",
                     "order R1 B1 R2 B0", "order r1 B1 R2 B2", "order R1  B1 R2 B2", "order R1 B1 R2 B2 ",
                     "order R01 B1 R2 B2", "order 0 2 1 3", "order R1B1R2B2", "order R1 B1 R2 B2 R3 B3"):
            self.wrong(4, line)
        self.wrong(4, "order R1 B1 R2 B2", THREE_LINES)
        self.wrong(4, "order R1 B1 R2 B2 R3 B4", THREE_LINES)

    def test_turn(self):
        for line in ("turn", "turn ", "turn r", "turn 0", "turn R1", "turn R B", "turn R ", "turn RB", "turns R"):
            self.wrong(5, line)

    def test_left(self):
        for line in ("left", "left ", "left 21", "left 100", "left 9999", "left 00", "left 01", "left 020", "left -1",
                     "left 1 2", "left 1 ", "left x", "left 00000", "Left 1"):
            self.wrong(6, line)

    def test_can(self):
        for line in ("can", "can R1", "can R1 R1", "can R1 R3", "can R3 R1", "can R1 B1 R2", "can R1  B1", "can R1 B1 ",
                     " can R1 B1", "can 0 2", "can r1 b1", "cans R1 B1", "can B2 B2"):
            self.wrong(7, line, TWO_LINES + [""])

    def test_a_pair_twice(self):
        self.assertEqual(load_lines(TWO_LINES + ["can R1 B1", "can R1 B1"]), [-1008])
        self.assertEqual(load_lines(TWO_LINES + ["can R1 B1", "can B1 R1", "", "can R1 B1"]), [-1010])

    def test_bytes_that_no_line_has(self):
        for byte in (0, 9, 13, 63, 127, 128, 255):
            self.assertEqual(ask_last([0, 1, byte]), [-1001])
            numbers = list(TWO.encode()) + [byte]
            self.assertEqual(ask_last([0, len(numbers)] + numbers), [-1007])
        self.assertEqual(ask_last(load(TWO.replace("\n", "\r\n"))), [-1001])

    def test_a_remark_begins_at_the_line_s_beginning(self):
        self.wrong(1, " # a remark")
        self.wrong(3, "tie draw # a remark")

    def test_a_line_of_blanks_means_something(self):
        self.wrong(2, " ")
        self.assertEqual(load_lines(TWO_LINES + [" "]), [-1007])

    def test_all_lines_are_counted(self):
        lines = ["# one", "", TWO_LINES[0], "", "# five", "points 1 2 3"]
        self.assertEqual(load_lines(lines), [-1006])

    def test_the_first_wrong_line_is_told(self):
        self.assertEqual(load_lines(with_line(5, "turn x", with_line(2, "points 1"))), [-1002])


class LinesThatAreNotNext(unittest.TestCase):
    def test_two_lines_exchanged(self):
        for k in range(5):
            lines = list(TWO_LINES)
            lines[k], lines[k + 1] = lines[k + 1], lines[k]
            self.assertEqual(load_lines(lines), [-1000 - k - 1])

    def test_a_line_twice(self):
        for k in range(6):
            lines = TWO_LINES[:k + 1] + [TWO_LINES[k]] + TWO_LINES[k + 1:]
            self.assertEqual(load_lines(lines), [-1000 - k - 2])

    def test_a_line_that_is_not_there(self):
        for k in range(5):
            self.assertEqual(load_lines(TWO_LINES[:k] + TWO_LINES[k + 1:]), [-1000 - k - 1])

    def test_can_ahead_of_its_place(self):
        for k in range(6):
            self.assertEqual(load_lines(TWO_LINES[:k] + ["can R1 B1"] + TWO_LINES[k:]), [-1000 - k - 1])


class TooFewLines(unittest.TestCase):
    def test_just_boats(self):
        self.assertEqual(ask_last(load("boats 2")), [-1002])
        self.assertEqual(ask_last(load("boats 2\n")), [-1002])

    def test_each_number_of_lines(self):
        for k in range(6):
            self.assertEqual(load_lines(TWO_LINES[:k]), [-1000 - k - 1])

    def test_an_empty_text(self):
        self.assertEqual(ask_last(load("")), [-1001])

    def test_lines_that_mean_nothing_are_counted(self):
        self.assertEqual(ask_last(load("\n")), [-1002])
        self.assertEqual(ask_last(load("\n\n")), [-1003])
        self.assertEqual(ask_last(load("boats 2\n\n")), [-1003])
        self.assertEqual(ask_last(load("# one\nboats 2\n#")), [-1004])


class RefusedLoads(unittest.TestCase):
    def test_the_match_stays_as_it_was(self):
        text = match_text("1 2 4 9", cans=["R2 B1"])
        told = ask(load(text), move(3), TEXT, load("boats 3\npoints"), TEXT, load("x" * 2001), TEXT)
        self.assertEqual(told[3], [-1002])
        self.assertEqual(told[5], [-8])
        self.assertEqual(told[2], told[4])
        self.assertEqual(told[2], told[6])

    def test_a_refusal_at_the_last_line_changes_nothing(self):
        other = match_text("2 3 4 5 6 7", "last", turn="B", left=9, cans=["R1 B1", "R1 B1"])
        told = ask(load(TWO), load(other), TEXT)
        self.assertEqual(told[1], [-1008])
        self.assertEqual(as_text(told[2]), TWO)

    def test_what_can_be_taken_back_stays(self):
        told = ask(load(TWO), move(0), move(102), load("boats 2"), UNDO, load("x" * 2001), UNDO, UNDO, TEXT)
        self.assertEqual(told[4:8], [[1], [-8], [0], [-6]])
        self.assertEqual(as_text(told[8]), TWO)

    def test_no_match_behind_a_refused_load(self):
        self.assertEqual(ask(load("boats 2"), RESULT), [[-1002], [-1]])


if __name__ == "__main__":
    unittest.main()
