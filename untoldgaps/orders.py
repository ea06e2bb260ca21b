"""Words that are repeated, and all tables of a row."""

from math import lcm

from untoldgaps.clashing import check_word
from untoldgaps.rows import check_narrow
from untoldgaps.tables import rest_table, table_of

# Tables of at most three gaps that come back at all do so after 1, 2, 3, 4 or 6 times [2.8].
_MOST_TIMES = 6
# Words that have more unlike tables than this have endlessly many [2.9].
_MOST_TABLES = 48


def _placed_balls(row, word):
    """Returns, place by place, the ball whose old speed stands there behind a word, and its sign."""
    placed = [(ball, 1) for ball in range(len(row))]
    for pair in word:
        if pair < 0:
            ball, sign = placed[0]
            placed[0] = (ball, -sign)
        else:
            placed[pair], placed[pair + 1] = placed[pair + 1], placed[pair]
    return placed


def _returns_like(row, word):
    """Returns after how many times a word of like balls changes no speeds."""
    placed = _placed_balls(row, word)
    many = 1
    met = {}
    for begin in range(len(row)):
        length = 0
        turn = 1
        ball = begin
        while ball not in met:
            met[ball] = True
            ball, sign = placed[ball]
            turn = turn * sign
            length += 1
        if length:
            many = lcm(many, length if turn > 0 else 2 * length)
    return many


def _returns_unlike(row, word):
    """Returns after how many times a word of a narrow row changes no speeds, or None."""
    rest = rest_table(row)
    once = table_of(row, word)
    table = once
    for many in range(1, _MOST_TIMES + 1):
        if table == rest:
            return many
        table = table * once
    return None


def returns_after(row, word):
    """Returns after how many times a word changes no speeds, whatever they are, or None."""
    if not row.is_like:
        check_narrow(row)
    told = check_word(row, word)
    return _returns_like(row, told) if row.is_like else _returns_unlike(row, told)


def all_tables(row):
    """Returns the least word of each table that the words of a row have, or None if endlessly many."""
    check_narrow(row)
    clashes = [(pair, table_of(row, (pair,))) for pair in row.pairs]
    rest = rest_table(row)
    met = {rest.rows: True}
    words = [()]
    tables = [rest]
    at = 0
    # Each least word is a least word with one pair behind it, so the words come in their order.
    while at < len(words):
        for pair, clash in clashes:
            table = tables[at] * clash
            if table.rows not in met:
                met[table.rows] = True
                words.append(words[at] + (pair,))
                tables.append(table)
        if len(words) > _MOST_TABLES:
            return None
        at += 1
    return tuple(words)
