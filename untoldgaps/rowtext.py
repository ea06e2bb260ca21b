"""Texts of rows, gaps and cases, written and read."""

from untoldgaps.errors import BadGaps, BadText
from untoldgaps.ratios import ratio_of
from untoldgaps.rows import Row, check_gaps, told_gaps

MOST_TEXT = 20000
_MOST_DIGITS = 400


def ratio_text(thing):
    """Returns the token of a ratio."""
    top, bottom = ratio_of(thing)
    return str(top) if bottom == 1 else f"{top}/{bottom}"


def _gap_tokens(told):
    """Returns the text of gaps that are checked already."""
    return " ".join([ratio_text(gap) for gap in told])


def row_text(row):
    """Returns the text of a row."""
    tokens = ["|"] if row.wall else []
    for weight, speed in zip(row.weights, row.speeds):
        tokens.append(f"{weight}:{ratio_text(speed)}")
    return " ".join(tokens)


def gaps_text(gaps):
    """Returns the text of any number of gaps."""
    if not isinstance(gaps, (list, tuple)):
        raise BadGaps("length")
    return _gap_tokens(told_gaps(gaps))


def case_text(row, gaps):
    """Returns the text of a row and its gaps."""
    told = check_gaps(row, gaps)
    return f"{row_text(row)} @ {_gap_tokens(told)}"


def tokens_of(text):
    """Returns the tokens of a text, or raises BadText if it is no text."""
    if not isinstance(text, str) or len(text) > MOST_TEXT:
        raise BadText(0, "text")
    return text.split(" ") if text else []


def is_number_token(token):
    """Tells whether a token is written as a number token."""
    if not token.isascii() or not token.isdigit() or len(token) > _MOST_DIGITS:
        return False
    return token == "0" or not token.startswith("0")


def _ratio_in(token):
    """Returns the ratio of a ratio token, None for any other token."""
    sign = -1 if token.startswith("-") else 1
    top, slash, bottom = token.removeprefix("-").partition("/")
    if not slash:
        bottom = "1"
    if not is_number_token(top) or not is_number_token(bottom) or bottom == "0":
        return None
    told = ratio_of((sign * int(top), int(bottom)))
    # Each ratio has one token alone, so a token that is read and written again stays as it was.
    return told if ratio_text(told) == token else None


def _ball_in(token):
    """Returns the weight and the speed of a ball's token, None for any other token."""
    weight, _, speed = token.partition(":")
    told = _ratio_in(speed)
    if told is None or not is_number_token(weight):
        return None
    return (int(weight), told)


def check_token(index, token, told):
    """Raises BadText for an empty token and for one in which nothing could be read."""
    if not token:
        raise BadText(index, "blank")
    if told is None:
        raise BadText(index, "token")


def _row_in(tokens):
    """Returns the row that the tokens tell."""
    wall = tokens[:1] == ["|"]
    weights = []
    speeds = []
    for index in range(1 if wall else 0, len(tokens)):
        told = _ball_in(tokens[index])
        check_token(index, tokens[index], told)
        weights.append(told[0])
        speeds.append(told[1])
    return Row(weights, speeds, wall)


def _gaps_in(tokens, begin):
    """Returns the gaps that the tokens from an index on tell."""
    gaps = []
    for index in range(begin, len(tokens)):
        told = _ratio_in(tokens[index])
        check_token(index, tokens[index], told)
        if told[0] <= 0:
            raise BadText(index, "gap")
        gaps.append(told)
    return tuple(gaps)


def parse_row(text):
    """Reads the text of a row."""
    return _row_in(tokens_of(text))


def parse_gaps(text):
    """Reads the text of any number of gaps."""
    return _gaps_in(tokens_of(text), 0)


def parse_case(text):
    """Reads the text of a row and its gaps."""
    tokens = tokens_of(text)
    if tokens.count("@") != 1:
        raise BadText(0, "split")
    middle = tokens.index("@")
    row = _row_in(tokens[:middle])
    gaps = _gaps_in(tokens, middle + 1)
    return (row, check_gaps(row, gaps))
