"""[1.10], [1.11] Texts of words."""

import unittest

from helping import NO_SEQUENCES, NO_WHOLES, Case

from untoldgaps.errors import BadText, BadWord
from untoldgaps.wordtext import parse_word, word_text


class WritingTest(Case):
    def test_words(self):
        self.is_same(word_text([]), "")
        self.is_same(word_text(()), "")
        self.is_same(word_text([0, -1, 38, 10]), "0 -1 38 10")
        self.is_same(word_text((5,)), "5")
        self.is_same(word_text([1] * 900), " ".join(["1"] * 900))

    def test_refused(self):
        for thing in NO_SEQUENCES:
            self.refused(BadWord, {"index": 0, "what": "word"}, word_text, thing)
        for thing in NO_WHOLES + (-2, 39, 10**30):
            self.refused(BadWord, {"index": 0, "what": "pair"}, word_text, [thing, 40])
            self.refused(BadWord, {"index": 2, "what": "pair"}, word_text, (0, 1, thing))

    def test_what_is_passed_stays(self):
        word = [0, 1]
        word_text(word)
        self.is_same(word, [0, 1])


class ReadingTest(Case):
    def bad(self, text, index, what):
        self.refused(BadText, {"index": index, "what": what}, parse_word, text)

    def test_words(self):
        self.is_same(parse_word(""), ())
        self.is_same(parse_word("0 -1 38 10"), (0, -1, 38, 10))
        for word in ((), (0,), (-1, 0, -1), tuple(range(-1, 39))):
            self.is_same(parse_word(word_text(word)), word)

    def test_texts(self):
        for thing in (None, 7, True, b"0", ["0"], (0,)):
            self.bad(thing, 0, "text")
        self.bad("0" * 20001, 0, "text")
        self.bad("0 " * 10000 + "0", 0, "text")
        self.is_same(parse_word("10" + " 1" * 9999), (10,) + (1,) * 9999)

    def test_tokens(self):
        for token in ("-", "-2", "-0", "--1", "-01", "01", "00", "+1", "1/2", "x", "1.0", "|", "@", "\u0661", "\u00b9"):
            self.bad(token, 0, "token")
            self.bad(f"0 1 {token} 39", 2, "token")
        self.bad("9" * 401, 0, "token")

    def test_blanks(self):
        self.bad(" ", 0, "blank")
        self.bad(" 0", 0, "blank")
        self.bad("0 ", 1, "blank")
        self.bad("0  1", 1, "blank")

    def test_pairs(self):
        self.bad("39", 0, "pair")
        self.bad("0 38 40", 2, "pair")
        self.bad("9" * 400, 0, "pair")
        self.bad("39 x", 0, "pair")
        self.bad("x 39", 0, "token")


if __name__ == "__main__":
    unittest.main()
