"""Promise 1: the match as written."""

import unittest

from tests.calling import SWAP, TEXT, UNDO, ask_last, can, cannot, left, load, match_text, move, order, text_now


class Text(unittest.TestCase):
    def test_the_bytes_with_their_number(self):
        text = match_text("1 2 3 4")
        self.assertEqual(ask_last(load(text), TEXT), [len(text)] + list(text.encode()))

    def test_word_by_word(self):
        wanted = ("boats 3\npoints 0 2 30 400 5000 9999\ntie last\norder B3 R1 R3 B1 R2 B2\nturn B\nleft 20\n"
                  "can B3 R1\ncan R2 R1\n")
        self.assertEqual(text_now(load(wanted)), wanted)

    def test_can_lines_in_the_order_in_which_they_came(self):
        for cans in (["R1 B1", "B1 R1", "R1 R2"], ["R1 R2", "B1 R1", "R1 B1"], ["B2 B1", "R1 R2", "B1 R2"]):
            text = match_text("1 2 3 4", cans=cans)
            self.assertEqual(text_now(load(text)), text)

    def test_order_turn_and_left_as_they_stand_now(self):
        cans = ["R2 B1", "B2 R1"]
        before = match_text("1 2 3 4", left=4, cans=cans)
        behind = match_text("1 2 3 4", order="R1 R2 B1 B2", turn="B", left=3, cans=cans)
        last = match_text("1 2 3 4", order="R1 R2 B2 B1", turn="R", left=2, cans=cans)
        self.assertEqual(text_now(load(before), move(3)), behind)
        self.assertEqual(text_now(load(before), move(3), move(103)), last)
        self.assertEqual(text_now(load(before), move(3), move(103), UNDO), behind)

    def test_as_other_calls_have_changed_it(self):
        before = match_text("1 2 3 4", left=4, cans=["R2 B1", "B2 R1"])
        self.assertEqual(text_now(load(before), SWAP),
                         match_text("1 2 3 4", order="B1 R1 B2 R2", turn="B", left=4, cans=["B2 R1", "R2 B1"]))
        self.assertEqual(text_now(load(before), can(0, 1)),
                         match_text("1 2 3 4", left=4, cans=["R2 B1", "B2 R1", "R1 R2"]))
        self.assertEqual(text_now(load(before), cannot(1, 2)), match_text("1 2 3 4", left=4, cans=["B2 R1"]))
        self.assertEqual(text_now(load(before), cannot(1, 2), can(1, 2)),
                         match_text("1 2 3 4", left=4, cans=["B2 R1", "R2 B1"]))
        self.assertEqual(text_now(load(before), order([3, 1, 2, 0])),
                         match_text("1 2 3 4", order="B2 R2 B1 R1", left=4, cans=["R2 B1", "B2 R1"]))
        self.assertEqual(text_now(load(before), left(1, 20)),
                         match_text("1 2 3 4", turn="B", left=20, cans=["R2 B1", "B2 R1"]))

    def test_what_is_written_is_read_as_the_same(self):
        text = text_now(load("# x\n\n" + match_text("1 2 3 4", cans=["R2 B1"])), move(3))
        self.assertEqual(text_now(load(text)), text)

    def test_no_match(self):
        self.assertEqual(ask_last(TEXT), [-1])


if __name__ == "__main__":
    unittest.main()
