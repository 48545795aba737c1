"""The small machine of two words and a mark, and the shortest of its rows that do the same."""

from widewords.errors import NoRow, TooMany
from widewords.made import made

SMALL_ROWS = (
    "add", "less", "swap", "copy", "twice", "half", "bare", "both", "any", "odd", "nought", "clear", "one",
)
MOST_ROWS = 8
MOST_SHORT = 3


def small_run(rows, w, lo, hi, k):
    """(lo, hi, k) behind rows; refused with NoRow where one is none, else with TooMany where there are more than 8."""
    refuse_rows(rows)
    return all_done(rows, w, lo, hi, k)


def short(rows, w):
    """(found, looked): the first rows of at most three that do the same, or None, and how many stand ahead of them;
    refused as small_run is."""
    refuse_rows(rows)
    begun = every_state(w)
    wanted = [all_done(rows, w, lo, hi, k) for lo, hi, k in begun]
    tables = [(row, table_of(row, w, begun)) for row in SMALL_ROWS]
    looked = 0
    tried = [((), begun)]
    for length in range(MOST_SHORT + 1):
        if length > 0:
            tried = one_longer(tried, tables)
        for found, ended in tried:
            if ended == wanted:
                return found, looked
            looked += 1
    return None, looked


def refuse_rows(rows):
    for row in rows:
        if row not in SMALL_ROWS:
            raise NoRow("this is no row of the small machine")
    if len(rows) > MOST_ROWS:
        raise TooMany(f"there are more than {MOST_ROWS} rows")


def all_done(rows, w, lo, hi, k):
    """(lo, hi, k) behind rows."""
    for row in rows:
        lo, hi, k = small_done(row, w, lo, hi, k)
    return lo, hi, k


def small_done(row, w, lo, hi, k):
    """(lo, hi, k) behind one row."""
    if row == "swap":
        return hi, lo, k
    if row == "copy":
        return lo, lo, k
    if row == "nought":
        return 0, hi, k
    if row == "clear":
        return lo, hi, 0
    if row == "one":
        return lo, hi, 1
    word, mark = made("sum" if row == "add" else row, w, lo, hi, k)
    return word, hi, mark


def every_state(w):
    """A list of each (lo, hi, k) of width w."""
    size = 1 << w
    return [(lo, hi, k) for lo in range(size) for hi in range(size) for k in range(2)]


def table_of(row, w, begun):
    """What a row makes of each (lo, hi, k), as a dict."""
    return {(lo, hi, k): small_done(row, w, lo, hi, k) for lo, hi, k in begun}


def one_longer(tried, tables):
    """The rows tried with each row once behind them, and what each (lo, hi, k) of the beginning comes to then."""
    return [
        (told + (row,), [table[state] for state in ended])
        for told, ended in tried
        for row, table in tables
    ]
