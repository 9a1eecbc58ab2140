"""The text of a record."""

from wrapcount.errors import ParseError
from wrapcount.keys import closing_pipes
from wrapcount.networks import MAX_COUNT, MAX_MODULUS, MAX_PIPES, MAX_PLACES, is_open_pipe
from wrapcount.record import Record

# MAX_COUNT, the greatest integer that may stand in a text, has so many.
MAX_DIGITS = 13


def meter_word(meter):
    """Returns the word for a meter, or for a missing one."""
    return "-" if meter is None else str(meter)


def read_number(word):
    """Returns the integer that the word stands for, or None if it does not stand for one or has too many digits."""
    # Python itself reads other digits, too, and refuses to read very many.
    if not word.isascii() or not word.isdigit() or len(word) > MAX_DIGITS:
        return None
    return int(word) if word[0] != "0" or len(word) == 1 else None


def record_text(record):
    """Returns the text of a record."""
    modulus, places, pipes = record.network()
    lines = [f"network {modulus} {places}"]
    for source, target, low, high, meter in pipes:
        lines.append(f"pipe {source} {target} {low} {high} {meter_word(meter)}")
    return "\n".join(lines)


def split_line(text, line):
    """Returns the list of the words of a line, the one with this number."""
    words = text.split(" ")
    if "" in words:
        raise ParseError(line, 0)
    return words


def number_at(words, line, word, low, high):
    """Returns the integer at this place of a line, counted from 1. It has to be from low to high."""
    value = read_number(words[word - 1]) if word <= len(words) else None
    if value is None or not low <= value <= high:
        raise ParseError(line, word)
    return value


def read_head(words):
    """Returns the modulus and the number of places that stand in the first line."""
    if words[0] != "network":
        raise ParseError(1, 1)
    modulus = number_at(words, 1, 2, 2, MAX_MODULUS)
    places = number_at(words, 1, 3, 1, MAX_PLACES)
    if len(words) > 3:
        raise ParseError(1, 4)
    return modulus, places


def read_pipe(words, line, modulus, places):
    """Returns the pipe that stands in the line with this number."""
    if words[0] != "pipe" or line > MAX_PIPES + 1:
        raise ParseError(line, 1)
    source = number_at(words, line, 2, 0, places - 1)
    target = number_at(words, line, 3, 0, places - 1)
    if target == source:
        raise ParseError(line, 3)
    low = number_at(words, line, 4, 0, MAX_COUNT)
    high = number_at(words, line, 5, low, MAX_COUNT)
    meter = None
    if words[5:6] != ["-"]:
        meter = number_at(words, line, 6, 0, modulus - 1)
    if len(words) > 6:
        raise ParseError(line, 7)
    return (source, target, low, high, meter)


def read_record(text):
    """Returns the record of a text, without recorded changes."""
    if not isinstance(text, str):
        raise ParseError(0, 0)
    lines = text.split("\n")
    modulus, places = read_head(split_line(lines[0], 1))
    pipes = []
    for line, told in enumerate(lines[1:], start=2):
        pipes.append(read_pipe(split_line(told, line), line, modulus, places))
    network = (modulus, places, tuple(pipes))
    closing = closing_pipes(network, [index for index, pipe in enumerate(pipes) if is_open_pipe(pipe)])
    if closing:
        raise ParseError(closing[0] + 2, 6)
    return Record(network)
