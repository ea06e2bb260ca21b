"""Texts of words, written and read."""

from untoldgaps.errors import BadText
from untoldgaps.rowtext import check_token, is_number_token, tokens_of
from untoldgaps.words import GREATEST_PAIR, check_pairs


def word_text(word):
    """Returns the text of a word."""
    return " ".join([str(pair) for pair in check_pairs(word, None)])


def _pair_in(token):
    """Returns the pair of a token, None if the token is of another shape."""
    if token == "-1" or is_number_token(token):
        return int(token)
    return None


def parse_word(text):
    """Reads the text of a word."""
    word = []
    for index, token in enumerate(tokens_of(text)):
        pair = _pair_in(token)
        check_token(index, token, pair)
        if pair > GREATEST_PAIR:
            raise BadText(index, "pair")
        word.append(pair)
    return tuple(word)
