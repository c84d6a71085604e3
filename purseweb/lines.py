"""The rows that a desk is told, as far as their writing goes (point 31)."""

from purseweb.errors import NoRow, NoText
from purseweb.texts import read_number, read_numbers

LETTERS = "abcdefghijklmnopqrstuvwxyz"
MOST_LETTERS = 8

# By the first word, what each word behind it stands for.
FORMS = {
    "web": ("TEXT",),
    "purse": ("NEW", "NUMBERS"),
    "plus": ("NEW", "NAME", "NAME"),
    "minus": ("NEW", "NAME", "NAME"),
    "turn": ("NEW", "NAME"),
    "lend": ("NAME", "HOUSE", "TIMES"),
    "run": ("NAME", "NUMBERS"),
    "show": ("NAME",),
    "total": ("NAME",),
    "shown": (),
    "settle": ("NAME", "HOUSE"),
    "alike": ("NAME", "NAME"),
    "clear": ("NAME",),
    "spare": ("NAME",),
    "trees": (),
    "loops": (),
    "break": ("NAME",),
}


def read_line(row):
    # Told are the first word and, for each word behind it, a tuple of what it stands for and the word itself, read
    # where it is written by numbers.
    words = words_of(row)
    kinds = FORMS.get(words[0])
    if kinds is None or len(kinds) != len(words) - 1:
        raise NoRow(f"no row by its words: {row!r}")
    return (words[0], [(kind, read_word(kind, word)) for kind, word in zip(kinds, words[1:])])


def words_of(row):
    # The text of a web has blanks of its own.
    return row.split(" ", 1) if row.startswith("web ") else row.split(" ")


def read_word(kind, word):
    try:
        if kind == "NUMBERS":
            return read_numbers(word)
        if kind in ("HOUSE", "TIMES"):
            return read_number(word)
    except NoText:
        raise NoRow(f"not written by numbers: {word!r}") from None
    return word


def is_name(word):
    return 1 <= len(word) <= MOST_LETTERS and all([sign in LETTERS for sign in word])
