"""Tests of wrapcount.console: point 62, every command and every failure."""

import unittest

from tests.samples import N, N_EXCESS, N_OFF, crossing, drawn_network, draws, flowing_network, large_network
from tests.samples import single_rings, strange_values
from wrapcount.console import Console
from wrapcount.errors import InvalidMeter, InvalidNetwork, InvalidPipe, LimitExceeded, NoFlow, NothingToUndo
from wrapcount.keys import loose_pipes
from wrapcount.listing import count_flows
from wrapcount.ranges import ranges
from wrapcount.record import Record

TOP = 10 ** 12
NO_COUNT = (10, 2, ((0, 1, 16, 18, 5), (1, 0, 0, 99, 5)))
COMMANDS = ["new 10 3", "pipe 0 1 0 99 5", "pipe 0 1 0 99 -", "read 0 5", "clear 0", "undo", "meters", "decide", "range 0",
            "loose", "count"]
WORDS = {InvalidNetwork: "bad network", InvalidPipe: "bad pipe", InvalidMeter: "bad meter", NoFlow: "no flow",
         NothingToUndo: "nothing to undo", LimitExceeded: "limit exceeded"}


def pipe_command(pipe):
    return "pipe " + " ".join("-" if item is None else str(item) for item in pipe)


def filled(network):
    """Returns a console whose record has become this network."""
    console = Console()
    console.run(f"new {network[0]} {network[1]}")
    for pipe in network[2]:
        console.run(pipe_command(pipe))
    return console


def expected(record, command):
    """Returns what the command has to result in, and changes the record like it. The command is one by its form."""
    words = command.split(" ")
    numbers = [None if word == "-" else int(word) for word in words[1:]]
    network = record.network()
    try:
        if words[0] == "pipe":
            return str(record.add(tuple(numbers)))
        if words[0] in ("read", "clear", "undo"):
            {"read": record.read, "clear": record.clear, "undo": record.undo}[words[0]](*numbers)
            return "ok"
        if words[0] == "meters":
            return " ".join("-" if pipe[4] is None else str(pipe[4]) for pipe in network[2]) or "none"
        if words[0] == "decide":
            return record.decide()[0]
        if words[0] == "range":
            if numbers[0] >= len(network[2]):
                return "bad pipe"
            return " ".join(map(str, ranges(network)[numbers[0]]))
        if words[0] == "loose":
            return " ".join(map(str, loose_pipes(network))) or "none"
        return str(count_flows(network))
    except tuple(WORDS) as error:
        return WORDS[type(error)]


class Consoles(unittest.TestCase):
    def assertRuns(self, console, *commands):
        """Runs pairs of a command and its result, one after the other."""
        for command, result in zip(commands[::2], commands[1::2]):
            self.assertEqual((command, console.run(command)), (command, result))

    def state(self, console):
        """Returns what the console tells of its record."""
        return [console.run(command) for command in ("meters", "decide", "loose", "count", "range 0", "range 1")]


class Results(Consoles):
    def test_ordinary(self):
        self.assertRuns(
            Console(), "decide", "no record", "new 10 3", "ok", "meters", "none", "decide", "flow", "loose", "none",
            "count", "1", "pipe 0 1 0 99 5", "0", "decide", "sum", "loose", "no flow", "count", "0",
            "pipe 1 2 0 9 -", "1", "pipe 2 0 0 99 2", "2", "pipe 1 0 0 99 3", "3", "meters", "5 - 2 3",
            "decide", "flow", "loose", "0 3", "count", "10", "range 0", "5 95", "range 1", "2 2", "range 3", "3 93",
            "read 3 4", "ok", "meters", "5 - 2 4", "decide", "sum", "range 0", "no flow", "undo", "ok",
            "clear 2", "ok", "meters", "5 - - 3", "clear 0", "bad network", "clear 3", "bad network",
            "read 1 2", "ok", "meters", "5 2 - 3", "range 2", "2 2")

    def test_the_kinds_of_reasons(self):
        for network, word in ((N, "flow"), (N_OFF, "sum"), (NO_COUNT, "pipe"), (N_EXCESS, "places")):
            console = filled(network)
            flowing = word == "flow"
            self.assertRuns(console, "decide", word, "loose", "0 3" if flowing else "no flow",
                            "count", "10" if flowing else "0", "range 0", "5 95" if flowing else "no flow",
                            "range 60", "bad pipe")

    def test_new_replaces_the_record(self):
        console = filled(N)
        self.assertRuns(console, "new 2 1", "ok", "meters", "none", "undo", "nothing to undo", "pipe 0 1 0 9 0", "bad pipe",
                        "new 10 2", "ok", "pipe 0 1 0 9 0", "0", "new 1000000 24", "ok", "pipe 23 0 0 9 999999", "0",
                        "undo", "ok", "undo", "nothing to undo")

    def test_undo_down_to_the_beginning(self):
        console = filled(N)
        self.assertRuns(console, "read 0 6", "ok", "undo", "ok", "undo", "ok", "meters", "5 - 2", "undo", "ok", "undo", "ok",
                        "meters", "5", "undo", "ok", "meters", "none", "undo", "nothing to undo", "undo", "nothing to undo",
                        "pipe 0 1 0 9 5", "0", "meters", "5")

    def test_counts(self):
        self.assertRuns(filled((10, 2, ((0, 1, 0, 4999, 0), (1, 0, 0, TOP, None)))), "count", "500", "range 0", "0 4990")
        self.assertRuns(filled((10, 2, ((0, 1, 0, 5000, 0), (1, 0, 0, TOP, None)))), "count", "limit exceeded",
                        "range 1", "0 5000", "loose", "0 1")
        self.assertRuns(filled(crossing(2, 32)), "count", "496")
        self.assertRuns(filled((2, 2, ((0, 1, 0, TOP, 0), (1, 0, 0, TOP, 0)) * 30)), "count", "limit exceeded",
                        "loose", " ".join(map(str, range(60))), "range 59", f"0 {TOP}")
        self.assertRuns(filled(single_rings(8, 1)), "count", "256")

    def test_the_greatest_numbers(self):
        self.assertRuns(Console(), "new 1000000 24", "ok", f"pipe 23 22 {TOP} {TOP} 0", "0",
                        f"pipe 22 23 0 {TOP} 999999", "1", "decide", "sum", "read 1 0", "ok", "range 1", f"{TOP} {TOP}",
                        "loose", "none", "count", "1")

    def test_all_results_are_texts(self):
        for console in (Console(), filled(N), filled(N_OFF)):
            for command in COMMANDS + strange_values():
                self.assertIs(type(console.run(command)), str)

    def test_consoles_are_apart(self):
        one, other = filled(N), filled(N)
        self.assertRuns(one, "read 0 6", "ok", "decide", "sum")
        self.assertRuns(other, "decide", "flow", "new 2 2", "ok")
        self.assertRuns(one, "meters", "6 - 2 3")

    def test_argument_by_name(self):
        console = Console()
        self.assertEqual(console.run(command="new 10 3"), "ok")


class Failures(Consoles):
    def test_no_record(self):
        console = Console()
        for command in COMMANDS[1:] + ["read 99 99", "range 99", "pipe 9 9 9 9 9", "clear 7"]:
            self.assertRuns(console, command, "no record")
        self.assertRuns(console, "new 1 3", "bad network", "decide", "no record", "new 10 25", "bad network",
                        "undo", "no record", "new 10 24", "ok", "undo", "nothing to undo")

    def test_no_command(self):
        wrong = ["", " ", "  ", "x", "New 10 3", "new", "new 10", "new 10 3 4", "new 10 x", "new - 3", "new 10 -",
                 "pipe 0 1 0 99", "pipe", "pipe 0 1 0 99 5 5", "pipe 0 1 0 99 x", "pipe 0 1 0 - 5", "pipe - 1 0 99 5",
                 "pipe - - - - -", "pipe 0 1 0 99 --", "read 0", "read", "read 0 -", "read - 5", "read 0 5 5", "clear",
                 "clear -", "clear 0 0", "clear x", "undo 1", "undo -", "undo undo", "meters 0", "meters -", "decide 0",
                 "range", "range -", "range 0 1", "range x", "loose 0", "count 0", "count -", "decide\n", "\ndecide",
                 "decide\nundo", "read 0\n5", "read\t0 5", "DECIDE", "decide.", "none", "ok", "0", "-", "network 10 3"]
        wrong += [command + " " for command in COMMANDS] + [" " + command for command in COMMANDS]
        wrong += [command.replace(" ", "  ", 1) for command in COMMANDS if " " in command]
        wrong += [command + "\n" for command in COMMANDS] + [command + " 0" for command in COMMANDS]
        wrong += [command + " -" for command in COMMANDS]
        for console in (Console(), filled(N), filled(N_OFF)):
            before = self.state(console)
            for command in wrong + [value for value in strange_values() if not isinstance(value, str)]:
                self.assertEqual(console.run(command), "bad command")
            for command in [value for value in strange_values() if isinstance(value, str)] + [COMMANDS, b"undo", ("undo",)]:
                self.assertEqual(console.run(command), "bad command")
            self.assertEqual(self.state(console), before)

    def test_forms_of_integers(self):
        shapes = ["00", "01", "+1", "-1", "-0", "1.0", "1e1", "0x1", "1_0", "1" * 14, "0" * 13, "0" * 14, "9" * 5000, "a",
                  "\u0661", "\u00b2", "1\n", "\n1", "1\t"]
        for console in (Console(), filled(N)):
            before = self.state(console)
            for command in COMMANDS:
                words = command.split(" ")
                for at in range(1, len(words)):
                    for shape in shapes:
                        told = " ".join(words[:at] + [shape] + words[at + 1:])
                        self.assertEqual((told, console.run(told)), (told, "bad command"))
            self.assertEqual(self.state(console), before)

    def test_integers_of_13_digits(self):
        most = "9" * 13
        console = filled(N)
        self.assertRuns(console, f"new {most} 3", "bad network", f"new 10 {most}", "bad network", f"read {most} 5", "bad pipe",
                        f"read 0 {most}", "bad meter", f"clear {most}", "bad pipe", f"range {most}", "bad pipe",
                        f"pipe {most} 1 0 99 5", "bad pipe", f"pipe 0 {most} 0 99 5", "bad pipe",
                        f"pipe 0 1 {most} {most} 5", "bad pipe", f"pipe 0 1 0 {most} 5", "bad pipe",
                        f"pipe 0 1 0 99 {most}", "bad pipe", f"pipe 0 1 0 {TOP} 5", "4", f"pipe 0 1 {TOP} {TOP} -", "5",
                        "meters", "5 - 2 3 5 -")

    def test_new(self):
        console = filled(N)
        before = self.state(console)
        for command in ("new 1 3", "new 0 3", "new 1000001 3", "new 10 0", "new 10 25", "new 0 0"):
            self.assertRuns(console, command, "bad network")
        self.assertEqual(self.state(console), before)

    def test_pipe(self):
        console = filled(N)
        before = self.state(console)
        for pipe in ("0 0 0 99 5", "0 3 0 99 5", "3 0 0 99 5", "0 1 9 8 5", f"0 1 0 {TOP + 1} 5", "0 1 0 99 10",
                     "1 2 0 9 10", "1 1 0 9 -"):
            self.assertRuns(console, "pipe " + pipe, "bad pipe")
        for pipe in ("1 2 0 9 -", "2 1 0 9 -"):
            self.assertRuns(console, "pipe " + pipe, "bad network")
        self.assertEqual(self.state(console), before)

    def test_too_many_pipes_come_before_a_wrong_pipe(self):
        console = filled((10, 2, ((0, 1, 0, 99, 5), (1, 0, 0, 99, 5)) * 29 + ((0, 1, 0, 9, None),)))
        self.assertRuns(console, "pipe 9 9 9 9 9", "bad pipe", "pipe 0 1 0 9 -", "bad network", "pipe 0 1 0 9 5", "59",
                        "pipe 0 1 0 9 5", "bad network", "pipe 9 9 9 9 9", "bad network", "pipe 0 1 0 9 -", "bad network",
                        "undo", "ok", "pipe 9 9 9 9 9", "bad pipe")

    def test_read_and_clear(self):
        console = filled(N)
        before = self.state(console)
        self.assertRuns(console, "read 4 5", "bad pipe", "read 4 10", "bad pipe", "read 0 10", "bad meter",
                        "clear 4", "bad pipe", "clear 1", "bad meter")
        self.assertEqual(self.state(console), before)
        self.assertRuns(console, "clear 2", "ok", "clear 2", "bad meter", "clear 0", "bad network", "clear 3", "bad network",
                        "clear 9", "bad pipe", "undo", "ok")
        self.assertEqual(self.state(console), before)

    def test_range_of_no_pipe_comes_before_no_flow(self):
        self.assertRuns(filled(N_OFF), "range 4", "bad pipe", "range 3", "no flow")
        self.assertRuns(filled((10, 1, ())), "range 0", "bad pipe")


class Commands(Consoles):
    def test_against_a_record_that_receives_the_same_changes(self):
        seen = {}
        for seed in range(60):
            draw = draws(seed)
            network = (drawn_network, flowing_network)[seed % 2](seed)
            console, record = filled(network), Record((network[0], network[1], ()))
            for pipe in network[2]:
                record.add(pipe)
            for _ in range(40):
                command = self.draw_command(network, draw)
                result = expected(record, command)
                self.assertRuns(console, command, result)
                kind = command.split(" ")[0], result if result.islower() else "number"
                seen[kind] = seen.get(kind, 0) + 1
            self.assertRuns(console, "meters", expected(record, "meters"))
        for kind in (("pipe", "bad pipe"), ("pipe", "bad network"), ("pipe", "number"), ("read", "ok"), ("read", "bad pipe"),
                     ("read", "bad meter"), ("clear", "ok"), ("clear", "bad pipe"), ("clear", "bad meter"),
                     ("clear", "bad network"), ("undo", "ok"), ("decide", "flow"), ("decide", "sum"), ("decide", "pipe"),
                     ("range", "number"), ("range", "no flow"), ("range", "bad pipe"), ("loose", "number"),
                     ("loose", "none"), ("loose", "no flow"), ("count", "number"), ("meters", "number")):
            self.assertGreater(seen.get(kind, 0), 3, kind)

    def draw_command(self, network, draw):
        modulus, places, pipes = network
        index = draw(0, len(pipes))
        low = draw(0, 6)
        return [
            f"pipe {draw(0, places - 1)} {draw(0, places)} {low} {low + draw(0, 9) - 1 + (low == 0)} {draw(0, modulus)}",
            f"pipe {draw(0, places - 1)} {draw(0, places - 1)} {low} {low + draw(0, 9)} -",
            f"read {index} {draw(0, modulus)}", f"read {index} {draw(0, modulus - 1)}", f"clear {index}", f"clear {index}",
            "undo", "undo", "undo", "undo", "meters", "decide", f"range {index}", "loose", "count",
        ][draw(0, 14)]

    def test_large_networks(self):
        for seed in range(8):
            network, _ = large_network(seed)
            console, record = filled(network), Record(network)
            for command in ("decide", "loose", "count", "range 0", "range 59", "range 60", "meters", "read 7 0", "decide",
                            "loose", "count", "range 3", "undo", "decide", "clear 59", "meters", "range 3"):
                self.assertRuns(console, command, expected(record, command))


if __name__ == "__main__":
    unittest.main()
