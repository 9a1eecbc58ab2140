"""The console: commands for a record, as lines of text."""

from wrapcount.errors import InvalidMeter, InvalidNetwork, InvalidPipe, LimitExceeded, NoFlow, NothingToUndo
from wrapcount.keys import loose_pipes
from wrapcount.listing import count_flows
from wrapcount.ranges import greatest_count, least_count
from wrapcount.record import Record
from wrapcount.recordtext import meter_word, read_number

# The words of the commands, and how many words follow them.
COMMANDS = {
    "new": 2, "pipe": 5, "read": 2, "clear": 1, "undo": 0, "meters": 0, "decide": 0, "range": 1, "loose": 0, "count": 0,
}


def parse_command(command):
    """Returns the word of a command and the list of what follows, or None if the value, of any kind, is no command."""
    if not isinstance(command, str):
        return None
    words = command.split(" ")
    word = words[0]
    if word not in COMMANDS or len(words) != COMMANDS[word] + 1:
        return None
    # Only the meter of a pipe may be missing.
    missing = [None] if word == "pipe" and words[-1] == "-" else []
    numbers = [read_number(told) for told in words[1:len(words) - len(missing)]]
    return None if None in numbers else (word, numbers + missing)


def join_words(words):
    """Returns the words, separated by spaces, or none if there are none."""
    return " ".join(words) if words else "none"


class Console:
    """Holds at most one record and executes commands."""

    def __init__(self):
        self.record = None

    def run(self, command):
        """Executes a command and returns its result. Returns a text for any value."""
        parsed = parse_command(command)
        if parsed is None:
            return "bad command"
        word, numbers = parsed
        if self.record is None and word != "new":
            return "no record"
        try:
            return self.execute(word, numbers)
        except InvalidNetwork:
            return "bad network"
        except InvalidPipe:
            return "bad pipe"
        except InvalidMeter:
            return "bad meter"
        except NothingToUndo:
            return "nothing to undo"
        except NoFlow:
            return "no flow"
        except LimitExceeded:
            return "limit exceeded"

    def execute(self, word, numbers):
        """Executes a command of the right form, and raises what its record raises."""
        if word == "pipe":
            return str(self.record.add(tuple(numbers)))
        if word == "new":
            self.record = Record((numbers[0], numbers[1], ()))
        elif word == "read":
            self.record.read(numbers[0], numbers[1])
        elif word == "clear":
            self.record.clear(numbers[0])
        elif word == "undo":
            self.record.undo()
        else:
            return self.tell(word, numbers)
        return "ok"

    def tell(self, word, numbers):
        """Returns the result of a command that changes nothing."""
        network = self.record.network()
        if word == "meters":
            return join_words([meter_word(pipe[4]) for pipe in network[2]])
        if word == "decide":
            return self.record.decide()[0]
        if word == "range":
            least, _, _ = least_count(network, numbers[0])
            greatest, _, _ = greatest_count(network, numbers[0])
            return f"{least} {greatest}"
        if word == "loose":
            return join_words([str(index) for index in loose_pipes(network)])
        return str(count_flows(network))
