"""Tests of wrapcount.recordtext: point 61, and the errors of read_record."""

import re
import unittest

from tests.samples import N, N_EXCESS, N_OFF, closes_ring, drawn_network, draws, flowing_network, large_network
from tests.samples import plainly_open, strange_values
from wrapcount.decisions import decide
from wrapcount.errors import ParseError
from wrapcount.record import Record
from wrapcount.recordtext import read_record, record_text

TOP = 10 ** 12
TEXT = "network 10 3\npipe 0 1 0 99 5\npipe 1 2 0 9 -\npipe 2 0 0 99 2\npipe 1 0 0 99 3"
HEAD = "network 10 3"
PIPE = "pipe 0 1 0 99 5"


def plain_fault(text):
    """Returns the line and the word of the first fault of a text, or None. Finds them in another way."""
    lines = text.split("\n")
    modulus = places = None
    for number, line in enumerate(lines, start=1):
        if re.fullmatch("[^ ]+( [^ ]+)*", line, re.S) is None:
            return (number, 0)
        if number > 61:
            return (number, 1)
        words = re.findall("[^ ]+", line)
        names = ["network"] if number == 1 else ["pipe"]
        numbers = [int(word) if re.fullmatch("(0|[1-9][0-9]{0,13})", word) else None for word in words]
        allowed = [words[0] in names]
        if number == 1:
            allowed += [value is not None and low <= value <= high
                        for value, (low, high) in zip(numbers[1:], ((2, 10 ** 6), (1, 24)))]
            many = 3
        else:
            source, target, low, high, meter = (numbers[1:] + [None] * 5)[:5]
            allowed += [
                source is not None and source < places, target is not None and target < places and target != source,
                low is not None and low <= TOP, high is not None and high <= TOP and low is not None and high >= low,
                words[5:6] == ["-"] or meter is not None and meter < modulus,
            ]
            many = 6
        allowed = allowed[:len(words)] + [False] * (len(words) < many) + [False] * (len(words) > many)
        if False in allowed:
            return (number, allowed.index(False) + 1)
        if number == 1:
            modulus, places = numbers[1:3]
    pipes = [tuple(None if word == "-" else int(word) for word in line.split()[1:]) for line in lines[1:]]
    for number in range(len(pipes)):
        if closes_ring(places, [pipe for pipe in pipes[:number + 1] if plainly_open(pipe)]):
            return (number + 2, 6)
    return None


class Texts(unittest.TestCase):
    def assertText(self, text, network):
        record = read_record(text)
        self.assertIs(type(record), Record)
        self.assertEqual((record.network(), record.log(), record.news()), (network, [], []))
        self.assertEqual(record_text(record), text)
        self.assertIs(plain_fault(text), None)

    def assertWrong(self, text, line, word):
        with self.assertRaises(ParseError) as caught:
            read_record(text)
        found = (caught.exception.line, caught.exception.word)
        self.assertEqual(found, (line, word))
        self.assertEqual([type(part) for part in found], [int, int])
        if isinstance(text, str):
            self.assertEqual(plain_fault(text), found)


class Right(Texts):
    def test_ordinary(self):
        self.assertEqual(record_text(Record(N)), TEXT)
        self.assertText(TEXT, N)
        self.assertText("network 10 2\npipe 0 1 0 99 5\npipe 1 0 0 40 -", (10, 2, ((0, 1, 0, 99, 5), (1, 0, 0, 40, None))))

    def test_without_pipes(self):
        for modulus in (2, 10 ** 6):
            for places in (1, 24):
                self.assertText(f"network {modulus} {places}", (modulus, places, ()))

    def test_least_and_greatest_numbers(self):
        self.assertText(f"network 1000000 24\npipe 23 0 {TOP} {TOP} 999999\npipe 0 23 0 0 0\npipe 0 1 0 {TOP} -",
                        (10 ** 6, 24, ((23, 0, TOP, TOP, 999999), (0, 23, 0, 0, 0), (0, 1, 0, TOP, None))))

    def test_60_pipes(self):
        self.assertText("network 10 2" + "\npipe 0 1 0 99 5" * 60, (10, 2, ((0, 1, 0, 99, 5),) * 60))
        self.assertText("network 10 2" + "\npipe 0 1 9 9 -" * 60, (10, 2, ((0, 1, 9, 9, None),) * 60))

    def test_every_text_that_is_written_is_read_again(self):
        networks = [N, N_OFF, N_EXCESS] + [large_network(seed)[0] for seed in range(20)]
        networks += [make(seed) for seed in range(100) for make in (drawn_network, flowing_network)]
        for network in networks:
            record = Record(network)
            self.assertText(record_text(record), network)
            self.assertTrue(read_record(record_text(record)) == record)

    def test_records_after_changes(self):
        record = Record(N)
        for call in (lambda: record.read(3, 4), lambda: record.clear(0), lambda: record.add((0, 1, 0, 9, 0)), record.undo):
            call()
            self.assertText(record_text(record), record.network())
        record.undo()
        record.undo()
        self.assertEqual(record_text(record), TEXT)
        other = read_record(TEXT)
        self.assertTrue(other == record)
        other.read(3, 4)
        self.assertEqual(other.decide()[0], decide(N_OFF)[0])


class Faults(Texts):
    def test_no_text(self):
        for value in strange_values() + [N, Record(N), TEXT.split("\n"), TEXT.encode(), (TEXT,), 0]:
            if not isinstance(value, str):
                self.assertWrong(value, 0, 0)

    def test_empty_lines(self):
        for text, line in (("", 1), ("\n", 1), ("\n" + TEXT, 1), (TEXT + "\n", 6), (TEXT + "\n\n", 6),
                           (HEAD + "\n\n" + PIPE, 2), (HEAD + "\n", 2), (HEAD + "\n" + PIPE + "\n\n" + PIPE, 3)):
            self.assertWrong(text, line, 0)

    def test_spaces(self):
        for line in (" " + HEAD, HEAD + " ", "network  10 3", "network 10  3", " ", "  ", "x  y", "network 10 3 ",
                     " x", "x ", "network  x", "x  10 3 4 5 6"):
            self.assertWrong(line, 1, 0)
            self.assertWrong(line + "\n" + PIPE, 1, 0)
        for line in (" " + PIPE, PIPE + " ", "pipe  0 1 0 99 5", "pipe 0 1 0 99  5", " ", "   ", "x  y", "x ", " x",
                     "pipe 0 0 0 99 5 "):
            self.assertWrong(HEAD + "\n" + PIPE + "\n" + line, 3, 0)
            self.assertWrong(HEAD + "\n" + line + "\n" + PIPE, 2, 0)

    def test_words_of_the_first_line(self):
        for line, word in (("x", 1), ("pipe", 1), ("Network 10 3", 1), ("networks 10 3", 1), ("10 3", 1), ("network", 2),
                           ("network 10", 3), ("network 10 3 4", 4), ("network 10 3 x y", 4), ("network 1 3", 2),
                           ("network 0 0", 2), ("network 1000001 3", 2), ("network 10 0", 3), ("network 10 25", 3),
                           ("network x", 2), ("network x 3", 2), ("network 10 x", 3), ("network -10 3", 2),
                           ("network +10 3", 2), ("network 010 3", 2), ("network 10 03", 3), ("network 10 -3", 3),
                           ("network 1_0 3", 2), ("network 10 3.0", 3), ("network 1e1 3", 2), ("network - 3", 2),
                           ("network 10 -", 3), ("network 0 3", 2), ("network 00 3", 2), ("x 1 0 5", 1),
                           ("network\t10 3", 1), ("network 10\t3", 2), ("network 10 3\r", 3)):
            self.assertWrong(line, 1, word)
            self.assertWrong(line + "\n" + PIPE, 1, word)
            self.assertWrong(line + "\n\n", 1, word)

    def test_words_of_a_pipe(self):
        for line, word in (("x", 1), ("network 10 3", 1), ("Pipe 0 1 0 99 5", 1), ("pipes 0 1 0 99 5", 1), ("pipe", 2),
                           ("pipe 0", 3), ("pipe 0 1", 4), ("pipe 0 1 0", 5), ("pipe 0 1 0 99", 6), (PIPE + " 5", 7),
                           (PIPE + " x 5", 7), ("pipe 3 1 0 99 5", 2), ("pipe 0 3 0 99 5", 3), ("pipe 1 1 0 99 5", 3),
                           ("pipe 0 0 0 99 5", 3), (f"pipe 0 1 {TOP + 1} {TOP + 1} 5", 4), (f"pipe 0 1 0 {TOP + 1} 5", 5),
                           ("pipe 0 1 9 8 5", 5), ("pipe 0 1 0 99 10", 6), ("pipe 0 1 0 99 x", 6), ("pipe 0 1 0 99 --", 6),
                           ("pipe - 1 0 99 5", 2), ("pipe 0 - 0 99 5", 3), ("pipe 0 1 - 99 5", 4), ("pipe 0 1 0 - 5", 5),
                           ("pipe -1 1 0 99 5", 2), ("pipe 0 1 -0 99 5", 4), ("pipe 0 1 +0 99 5", 4), ("pipe 00 1 0 9 5", 2),
                           ("pipe 0 01 0 99 5", 3), ("pipe 0 1 00 99 5", 4), ("pipe 0 1 0 099 5", 5), ("pipe 0 1 0 99 05", 6),
                           ("pipe 0 1 0 99 - -", 7), ("pipe 0 1 0 99 None", 6), ("pipe 0 1 0 9_9 5", 5),
                           ("pipe 3 3 9 8 10 11", 2), ("pipe 0 3 9 8 10 11", 3), ("pipe 0 1 9 8 10 11", 5),
                           ("pipe 0 1 8 9 10 11", 6), ("pipe 1 0 x", 4), ("x 3 3 9 8 10 11", 1)):
            self.assertWrong(HEAD + "\n" + line, 2, word)
            self.assertWrong(HEAD + "\n" + PIPE + "\n" + line + "\n\nx  x", 3, word)

    def test_words_of_very_many_digits(self):
        for digits in ("1" * 5000, "9" * 5000, "0" * 5000, "1" * 4301, "9" * 14, "0" * 14, "1" + "0" * 19000):
            self.assertWrong(f"network {digits} 3", 1, 2)
            self.assertWrong(f"network 10 {digits}", 1, 3)
            for at in range(1, 6):
                words = PIPE.split(" ")
                words[at] = digits
                self.assertWrong(HEAD + "\n" + " ".join(words), 2, at + 1)
        self.assertWrong("x" * 20000, 1, 1)
        self.assertWrong("1" * 20000, 1, 1)

    def test_more_than_60_pipes(self):
        full = "network 10 2" + "\npipe 0 1 0 99 5" * 60
        for line, word in ((PIPE, 1), ("pipe", 1), ("x", 1), ("pipe 5 5 5 5 5 5 5", 1), ("", 0), (" ", 0), ("x  y", 0),
                           (PIPE + " ", 0), (" " + PIPE, 0)):
            self.assertWrong(full + "\n" + line, 62, word)
            self.assertWrong(full + "\n" + line + "\n" + PIPE, 62, word)
        # A line before that is told first, and a ring is not.
        self.assertWrong(full[:-1] + "x\n" + PIPE, 61, 6)
        self.assertWrong("network 10 2" + "\npipe 0 1 0 99 -" * 61, 62, 1)

    def test_rings(self):
        for pipes, line in ((("0 1 0 9 -", "1 0 0 9 -"), 3), (("0 1 0 9 -", "0 1 0 9 -", "1 2 0 9 -"), 3),
                            (("0 1 0 9 -", "1 2 0 9 -", "0 2 0 9 1", "0 2 9 9 -", "2 0 0 1 -", "2 0 0 1 -"), 6),
                            (("0 1 9 9 -", "0 1 0 9 -", "0 1 0 9 5", "0 1 0 9 -"), 5)):
            text = "\n".join([HEAD] + ["pipe " + pipe for pipe in pipes])
            self.assertWrong(text, line, 6)
            # Only if all words are allowed.
            self.assertWrong(text + "\npipe 0 1 0 99 10", len(pipes) + 2, 6)
            self.assertWrong(text + "\npipe 0 0", len(pipes) + 2, 3)
            self.assertWrong(text + "\n", len(pipes) + 2, 0)
        self.assertWrong("network 10 2" + "\npipe 0 1 0 99 -" * 60, 3, 6)

    def test_the_first_line_comes_first(self):
        self.assertWrong("network 10\npipe 0 0 0 99 5", 1, 3)
        self.assertWrong("network 10 3\npipe 0 1 0 99 5 6\npipe  0", 2, 7)
        self.assertWrong("x\n y", 1, 1)
        self.assertWrong("network 10 3 4\n", 1, 4)

    def test_changed_texts(self):
        texts = [record_text(Record(make(seed))) for seed in range(40) for make in (drawn_network, flowing_network)]
        parts = ["", " ", "  ", "\n", "-", "0", "00", "1", "9", "24", "25", "1000000", "1000001", str(TOP), str(TOP + 1),
                 "x", "pipe", "network", "-1", "+1", "\npipe 0 1 0 9 -", " 0", "\nnetwork 10 3"]
        seen = {}
        for seed in range(3000):
            draw = draws(seed)
            pieces = re.findall("[^ \n]+|[ \n]", texts[seed % len(texts)])
            for _ in range(draw(1, 2)):
                at = draw(0, len(pieces) - 1)
                kind = draw(0, 2)
                pieces[at:at + (kind < 2)] = [] if kind == 0 else [parts[draw(0, len(parts) - 1)]]
                if not pieces:
                    break
            text = "".join(pieces)
            fault = plain_fault(text)
            if fault is None:
                self.assertEqual(record_text(read_record(text)), text)
            else:
                self.assertWrong(text, fault[0], fault[1])
            word = None if fault is None else fault[1]
            seen[word] = seen.get(word, 0) + 1
        self.assertEqual(set(seen), {None, 0, 1, 2, 3, 4, 5, 6, 7})
        self.assertGreater(min(seen.values()), 5)

    def test_other_digits_and_spaces(self):
        for word in ("\u0661", "\u00b2", "\uff11", "1\u00a0", "\u2460"):
            with self.assertRaises(ParseError) as caught:
                read_record(f"network {word} 3")
            self.assertEqual((caught.exception.line, caught.exception.word), (1, 2))


if __name__ == "__main__":
    unittest.main()
