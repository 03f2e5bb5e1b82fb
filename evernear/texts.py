"""Texts of towns and of calls, written and read, and the diary of answered calls."""

from evernear.errors import BadCall, BadText
from evernear.stands import answer_lengths
from evernear.towns import check_town

DIGITS = "0123456789"
MOST_DIGITS = 3


def write_town(town):
    """Return the text of the town."""
    places, roads = town
    lines = [f"road {first} {second} {length}\n" for first, second, length in roads]
    return f"places {places}\n" + "".join(lines)


def read_town(text):
    """Return the town of the text."""
    lines = _lines_of(text)
    places = _read_line(1, lines[0], "places", 1)[0]
    roads = []
    for number, line in enumerate(lines[1:], start=2):
        roads.append(tuple(_read_line(number, line, "road", 3)))
    _check_end(text, lines)
    check_town((places, roads))
    return (places, roads)


def write_calls(calls):
    """Return the text of the list of calls."""
    return "calls" + "".join([f" {call}" for call in calls]) + "\n"


def read_calls(town, text):
    """Return the list of the calls of the town."""
    lines = _lines_of(text)
    # Each blank of the line has a word behind it, so no number is too many and none is missing.
    calls = _read_line(1, lines[0], "calls", lines[0].count(" "))
    if len(lines) > 1:
        raise BadText(2, 1)
    _check_end(text, lines)
    for at, call in enumerate(calls):
        if call >= town[0]:
            raise BadCall(at)
    return calls


def diary(town, stands, calls, *, rule, reach):
    """Return the diary of stands that answer the calls."""
    lengths = answer_lengths(town, stands, calls, rule, reach)
    lines = []
    for at, call in enumerate(calls):
        ahead = _write_stand(stands[at])
        behind = _write_stand(stands[at + 1])
        lines.append(f"call {call} from {ahead} to {behind} way {lengths[at]}\n")
    return "".join(lines) + f"way {sum(lengths)}\n"


def _write_stand(stand):
    return " ".join([str(place) for place in stand])


def _lines_of(text):
    if text == "":
        raise BadText(1, 1)
    lines = text.split("\n")
    # Behind the newline at the end there is no further line.
    return lines[:-1] if lines[-1] == "" else lines


def _read_line(number, line, first, many):
    """Return the numbers of a line that has this first word and so many numbers."""
    words = line.split(" ")
    column = 1
    for at, word in enumerate(words):
        if not _is_right(word, at, first, many):
            raise BadText(number, column)
        column = column + len(word) + 1
    if len(words) <= many:
        raise BadText(number, len(line) + 1)
    return [int(word) for word in words[1:]]


def _is_right(word, at, first, many):
    if at == 0:
        return word == first
    return at <= many and _is_number(word)


def _is_number(word):
    if not 1 <= len(word) <= MOST_DIGITS or not all(sign in DIGITS for sign in word):
        return False
    return word == "0" or word[0] != "0"


def _check_end(text, lines):
    if not text.endswith("\n"):
        raise BadText(len(lines), len(lines[-1]) + 1)
