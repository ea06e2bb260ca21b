"""[1.9], [1.10], [1.11] Texts of rows, gaps and cases."""

import unittest
from random import Random

from helping import NO_RATIOS, NO_SEQUENCES, Case

from untoldgaps.errors import BadGaps, BadRatio, BadRow, BadText
from untoldgaps.rowtext import (
    case_text,
    gaps_text,
    parse_case,
    parse_gaps,
    parse_row,
    ratio_text,
    row_text,
)
from untoldgaps.rows import Row

N400 = "9" * 400
N401 = "9" * 401
# No ratio token, whatever stands around it.
BAD_RATIOS = (
    "-",
    "--1",
    "+1",
    "-0",
    "00",
    "01",
    "-01",
    "1.0",
    "1/1",
    "0/1",
    "0/2",
    "-0/2",
    "2/4",
    "-3/6",
    "4/2",
    "1/0",
    "1/02",
    "1/-2",
    "1/",
    "/2",
    "-/2",
    "1/2/3",
    "1//2",
    "x",
    "1x",
    "1_0",
    "1\t",
    "\n1",
    "\u0663",
    "\u00b2",
    "1/\u0662",
    "|",
    N401,
    "-" + N401,
    "1/" + N401,
    N401 + "/2",
)
GOOD_RATIOS = {
    "0": (0, 1),
    "7": (7, 1),
    "-7": (-7, 1),
    "1/2": (1, 2),
    "-10/3": (-10, 3),
    N400: (int(N400), 1),
    "-" + N400: (-int(N400), 1),
    "1/" + N400: (1, int(N400)),
    "1" + "0" * 399 + "/" + N400: (10**399, int(N400)),
}


class WritingTest(Case):
    def test_ratio_text(self):
        for text, ratio in GOOD_RATIOS.items():
            self.is_same(ratio_text(ratio), text)
        self.is_same(ratio_text((6, -4 + 8)), "3/2")
        self.is_same(ratio_text((0, 9)), "0")
        self.is_same(ratio_text(-3), "-3")
        self.is_same(ratio_text((8, 4)), "2")
        for thing in NO_RATIOS:
            self.refused(BadRatio, {}, ratio_text, thing)

    def test_row_text(self):
        self.is_same(row_text(Row([2, 1], [(1, 2), -1], wall=True)), "| 2:1/2 1:-1")
        self.is_same(row_text(Row([2, 1, 9], [(-1, 2), 0, (4, 2)])), "2:-1/2 1:0 9:2")
        self.is_same(row_text(Row([5], [0], True)), "| 5:0")

    def test_long_texts(self):
        row = Row([1] * 40, [10**399] * 40, True)
        text = row_text(row)
        self.assertEqual(len(text), 1 + 40 * 403)
        self.assertEqual(parse_row(text), row)
        row = Row([1] * 40, [(10**399, 10**399 - 1)] * 40, True)
        self.assertGreater(len(row_text(row)), 20000)
        self.refused(BadText, {"index": 0, "what": "text"}, parse_row, row_text(row))
        self.assertEqual(len(gaps_text([1] * 30000)), 59999)

    def test_gaps_text(self):
        self.is_same(gaps_text([1, (2, 4), (9, 3)]), "1 1/2 3")
        self.is_same(gaps_text(((1, 2),)), "1/2")
        self.is_same(gaps_text([]), "")
        self.is_same(gaps_text(()), "")
        for thing in NO_SEQUENCES:
            self.refused(BadGaps, {"what": "length"}, gaps_text, thing)
        for thing in NO_RATIOS + (0, -1, (0, 3), (-1, 2)):
            self.refused(BadGaps, {"what": "gap"}, gaps_text, [thing])
            self.refused(BadGaps, {"what": "gap"}, gaps_text, (1, thing))

    def test_case_text(self):
        row = Row([2, 1], [(1, 2), -1], wall=True)
        self.is_same(case_text(row, [1, (2, 4)]), "| 2:1/2 1:-1 @ 1 1/2")
        self.is_same(case_text(Row([1, 1], [0, 0]), (3,)), "1:0 1:0 @ 3")
        for thing in NO_SEQUENCES + ([], [1], [1, 2, 3]):
            self.refused(BadGaps, {"what": "length"}, case_text, row, thing)
        for thing in NO_RATIOS + (0, -1):
            self.refused(BadGaps, {"what": "gap"}, case_text, row, [1, thing])


class ReadingTest(Case):
    def bad(self, call, text, index, what):
        self.refused(BadText, {"index": index, "what": what}, call, text)

    def test_no_texts(self):
        for call in (parse_row, parse_gaps, parse_case):
            for thing in (None, 7, True, b"1", ["1"], ("1:0", "1:0")):
                self.bad(call, thing, 0, "text")
            self.bad(call, "1" * 20001, 0, "text")
            self.bad(call, " " * 20001, 0, "text")
            self.bad(call, "1 " * 10000 + "1", 0, "text")

    def test_twenty_thousand_characters(self):
        self.assertEqual(parse_gaps("11" + " 1" * 9999), ((11, 1),) + ((1, 1),) * 9999)
        self.bad(parse_gaps, "1" * 20000, 0, "token")
        self.bad(parse_gaps, " " * 20000, 0, "blank")
        self.refused(BadRow, {"index": 0, "what": "many"}, parse_row, "1:0 " * 4999 + "1:00"[:3])
        self.bad(parse_row, "1:0 " * 5000, 5000, "blank")
        self.bad(parse_case, "x" * 20000, 0, "split")

    def test_rows(self):
        row = parse_row("| 2:1/2 1:-1")
        self.assertEqual(row, Row([2, 1], [(1, 2), -1], True))
        self.assertEqual(parse_row("1:0 9:-4/3"), Row([1, 9], [0, (-4, 3)]))
        self.assertEqual(parse_row("| 3:7"), Row([3], [7], True))
        for text, ratio in GOOD_RATIOS.items():
            self.assertEqual(parse_row(f"1:{text} 1:0").speeds, (ratio, (0, 1)))

    def test_row_tokens(self):
        for token in BAD_RATIOS:
            self.bad(parse_row, f"1:{token} 1:0", 0, "token")
            self.bad(parse_row, f"| 1:0 1:{token}", 2, "token")
        for token in ("1", ":1", "1:", ":", "-1:0", "01:0", "1:0:0", "1/2:0", "|1:0", "1:0|", "@", "1:0@", N401 + ":0"):
            self.bad(parse_row, f"1:0 {token}", 1, "token")
        self.bad(parse_row, "||", 0, "token")
        self.bad(parse_row, "1:0 | 1:0", 1, "token")
        self.bad(parse_row, "| | 1:0", 1, "token")
        self.bad(parse_row, "\u0661:0 1:0", 0, "token")
        self.bad(parse_row, "1:0\n1:0", 0, "token")

    def test_row_blanks(self):
        self.bad(parse_row, " ", 0, "blank")
        self.bad(parse_row, " 1:0 1:0", 0, "blank")
        self.bad(parse_row, "1:0 1:0 ", 2, "blank")
        self.bad(parse_row, "1:0  1:0", 1, "blank")
        self.bad(parse_row, "|  1:0", 1, "blank")
        self.bad(parse_row, "| ", 1, "blank")
        self.bad(parse_row, " |", 0, "blank")

    def test_the_leftmost_token_counts(self):
        self.bad(parse_row, "x  1:0", 0, "token")
        self.bad(parse_row, "1:0  x", 1, "blank")
        self.bad(parse_gaps, "1 -1 x", 1, "gap")
        self.bad(parse_gaps, "1 x -1", 1, "token")
        self.bad(parse_gaps, "1  -1", 1, "blank")

    def test_rows_refused_behind_good_tokens(self):
        for text, index, what in (
            ("", 0, "many"),
            ("|", 0, "many"),
            ("1:0", 0, "many"),
            ("0:0 1:0", 0, "weight"),
            ("1:0 10:0", 1, "weight"),
            (f"| 1:0 {N400}:0", 1, "weight"),
            (" ".join(["1:0"] * 41), 0, "many"),
            (" ".join(["99:0"] * 41), 0, "many"),
        ):
            self.refused(BadRow, {"index": index, "what": what}, parse_row, text)
        # A wrong token further to the right still comes first.
        self.bad(parse_row, "10:0 x", 1, "token")

    def test_gaps(self):
        self.is_same(parse_gaps(""), ())
        self.is_same(parse_gaps("1 1/2 3"), ((1, 1), (1, 2), (3, 1)))
        for text, ratio in GOOD_RATIOS.items():
            if ratio[0] > 0:
                self.is_same(parse_gaps(f"1 {text}"), ((1, 1), ratio))
            else:
                self.bad(parse_gaps, f"1 {text}", 1, "gap")
        for token in BAD_RATIOS + ("1:0", "@"):
            self.bad(parse_gaps, token, 0, "token")
            self.bad(parse_gaps, f"1 2 {token} 0", 2, "token")
        self.bad(parse_gaps, " 1", 0, "blank")
        self.bad(parse_gaps, "1 ", 1, "blank")
        self.bad(parse_gaps, "1  1", 1, "blank")

    def test_cases(self):
        row, gaps = parse_case("| 2:1/2 1:-1 @ 1 1/2")
        self.assertEqual(row, Row([2, 1], [(1, 2), -1], True))
        self.is_same(gaps, ((1, 1), (1, 2)))
        self.assertIs(parse_case("1:0 1:0 @ 1").__class__, tuple)

    def test_case_splits(self):
        for text in ("", "1:0 1:0", "1:0 1:0 @ 1 @", "@ @", "1:0 1:0@ 1", "x  y", "1:0 1:0 @@ 1"):
            self.bad(parse_case, text, 0, "split")

    def test_case_tokens(self):
        self.bad(parse_case, "1:0 x @ 1", 1, "token")
        self.bad(parse_case, "1:0  @ 1", 1, "blank")
        self.bad(parse_case, " 1:0 1:0 @ 1", 0, "blank")
        self.bad(parse_case, "1:0 1:0 @ x", 3, "token")
        self.bad(parse_case, "1:0 1:0 @ ", 3, "blank")
        self.bad(parse_case, "1:0 1:0 @ 1 ", 4, "blank")
        self.bad(parse_case, "1:0 1:0 @  1", 3, "blank")
        self.bad(parse_case, "1:0 1:0 @ 0", 3, "gap")
        self.bad(parse_case, "1:0 1:0 @ 1 -1/2", 4, "gap")
        self.bad(parse_case, "1:0 1:0 @ |", 3, "token")

    def test_case_order(self):
        # The row is made before the gaps are read, and their number is looked at last.
        self.refused(BadRow, {"index": 1, "what": "weight"}, parse_case, "1:0 10:0 @ x")
        self.refused(BadRow, {"index": 0, "what": "many"}, parse_case, "@ x")
        self.refused(BadRow, {"index": 0, "what": "many"}, parse_case, "| @  ")
        self.bad(parse_case, "10:0 x @ 1", 1, "token")
        self.bad(parse_case, "1:0 1:0 @ 1 1 0", 5, "gap")
        for text in ("1:0 1:0 @", "1:0 1:0 @ 1 2", "| 1:0 1:0 @ 1"):
            self.refused(BadGaps, {"what": "length"}, parse_case, text)

    def test_reading_back(self):
        chance = Random(31)
        for _ in range(100):
            wall = chance.random() < 0.5
            count = chance.randint(1 if wall else 2, 6)
            weights = [chance.randint(1, 9) for _ in range(count)]
            speeds = [(chance.randint(-30, 30), chance.randint(1, 9)) for _ in range(count)]
            row = Row(weights, speeds, wall)
            gaps = tuple([(chance.randint(1, 10**20), 1) for _ in row.pairs])
            self.assertEqual(parse_row(row_text(row)), row)
            self.is_same(parse_gaps(gaps_text(gaps)), gaps)
            told, read = parse_case(case_text(row, gaps))
            self.assertEqual(told, row)
            self.is_same(read, gaps)
            self.is_same(case_text(told, read), case_text(row, list(gaps)))


if __name__ == "__main__":
    unittest.main()
