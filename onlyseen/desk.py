"""A desk: lines of commands for a live saying, answered by texts."""

from onlyseen.checks import renewed
from onlyseen.errors import InvalidCommand, NotReady
from onlyseen.live import Live
from onlyseen.reading import clause_of_text, saying_of_text
from onlyseen.shapes import is_name
from onlyseen.texts import show_answers, show_clause, show_saying


def saying_text(live):
    """The text of the saying."""
    return show_saying(live.saying)


def settled_text(live):
    """Answers of the saying, or how many steps its refutation has."""
    kind, told = live.settle()
    if kind == "answers":
        return "answers " + show_answers(live.saying, told)
    return f"refuted {len(told)}"


def number_text(live):
    """The number of answers of the saying."""
    return str(live.many())


def core_text(live):
    """The clauses of a core of the saying."""
    clauses = live.saying[2]
    return " ; ".join([show_clause(clauses[index]) for index in live.core()])


def idle_text(live):
    """The owns and picks that are idle for them."""
    return ", ".join([f"{name} {pick}" for name, pick in live.idle()]) or "-"


# What is told of the saying and changes nothing.
LOOKS = {"text": saying_text, "settle": settled_text, "many": number_text, "core": core_text, "idle": idle_text}


def names_in(text):
    """The list of two names, with a blank between, that a text is; None if it is none such."""
    names = text.split(" ")
    return names if len(names) == 2 and is_name(names[0]) and is_name(names[1]) else None


def command_in(line):
    """The tuple (word, what it is for) of a line, the latter None where there is nothing; None if it is no command."""
    if not isinstance(line, str):
        return None
    if line in LOOKS or line == "back":
        return line, None
    word, _, rest = line.partition(" ")
    told = None
    if word == "saying":
        told = saying_of_text(rest)
    elif word in ("put", "take"):
        told = clause_of_text(rest)
    elif word in ("show", "hide"):
        told = names_in(rest)
    return None if told is None else (word, told)


def live_of(saying):
    """A live saying to which all clauses of a saying were put, by sequence."""
    live = Live(saying[0], saying[1])
    for clause in saying[2]:
        live.put(clause)
    return live


def do_deed(live, word, told):
    """Does a deed with a clause, or with a name and a pick."""
    if word == "put":
        live.put(told)
    elif word == "take":
        live.take(told)
    elif word == "show":
        live.show(told[0], told[1])
    else:
        live.hide(told[0], told[1])


class Desk:
    """A place for one live saying, none at first."""

    def __init__(self):
        self._live = None

    def execute(self, line):
        """Does what a line tells; returns its answer."""
        command = command_in(line)
        if command is None:
            raise InvalidCommand(renewed(line))
        word, told = command
        if word == "saying":
            self._live = live_of(told)
            return "ok"
        if self._live is None:
            raise NotReady(None)
        if word in LOOKS:
            look = LOOKS[word]
            return look(self._live)
        if word == "back":
            return self._live.back()
        do_deed(self._live, word, told)
        return "ok"
