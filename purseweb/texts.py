"""Webs and numbers, written and read (points 6 and 30)."""

from purseweb.errors import NoText
from purseweb.webs import web_of

FIGURES = "0123456789"
MOST_FIGURES_IN_WEBS = 2
MOST_FIGURES_IN_PURSES = 30


def read_web(text):
    words = text.split(" ")
    if not words[0].endswith(":"):
        raise NoText(f"no number of houses with a colon: {text!r}")
    many = read_small(words[0][:-1])
    ties = [read_tie(word) for word in words[1:]]
    return web_of(many, ties)


def read_tie(word):
    halves = word.split("*")
    ends = halves[0].split("-")
    if len(halves) > 2 or len(ends) != 2:
        raise NoText(f"no tie: {word!r}")
    times = read_times(halves[1]) if len(halves) == 2 else 1
    return (read_small(ends[0]), read_small(ends[1]), times)


def read_times(word):
    times = read_small(word)
    if times < 2:
        raise NoText(f"no TIMES to be written: {word!r}")
    return times


def read_small(word):
    if not is_plain(word, MOST_FIGURES_IN_WEBS):
        raise NoText(f"no number of a web: {word!r}")
    return int(word)


def is_plain(word, most_figures):
    if not 1 <= len(word) <= most_figures:
        return False
    # Not isdigit: that takes figures of other scripts too.
    return all([sign in FIGURES for sign in word]) and (word == "0" or word[0] != "0")


def shown_web(web):
    many = len(web)
    words = [f"{many}:"]
    for a, row in enumerate(web):
        words.extend([shown_tie(a, b, row[b]) for b in range(a + 1, many) if row[b] > 0])
    return " ".join(words)


def shown_tie(a, b, times):
    return f"{a}-{b}" if times == 1 else f"{a}-{b}*{times}"


def read_numbers(text):
    return tuple([read_number(word) for word in text.split(",")])


def read_number(word):
    figures = word[1:] if word.startswith("-") else word
    if word == "-0" or not is_plain(figures, MOST_FIGURES_IN_PURSES):
        raise NoText(f"no number: {word!r}")
    return int(word)


def shown_numbers(numbers):
    return ",".join([str(number) for number in numbers])
