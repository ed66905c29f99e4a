"""Reading texts of sayings and of clauses: just those that are shown so."""

from onlyseen.checks import renewed
from onlyseen.errors import Unreadable
from onlyseen.shapes import fits_saying, is_any_clause


def letter_in(word):
    """The letter that a word tells, or what is none if the word tells none."""
    return (word[1:], False) if word.startswith("-") else (word, True)


def letters_in(text):
    """The clause of a text, or what is none if the text is that of none."""
    return () if text == "." else tuple([letter_in(word) for word in text.split(" ")])


def names_in(text):
    """The names of a text, or what are none if the text tells none."""
    return () if text == "-" else tuple(text.split(" "))


def clause_of_text(text):
    """The clause that has this text; None if there is none."""
    if not isinstance(text, str):
        return None
    clause = letters_in(text)
    return clause if is_any_clause(clause) else None


def saying_of_text(text):
    """The saying that has this text; None if there is none."""
    if not isinstance(text, str) or not text.startswith("pick "):
        return None
    parts = text.split(" ; ")
    owns = []
    # No clause has a colon, though one may begin with a name that is own.
    while len(owns) + 1 < len(parts) and parts[len(owns) + 1].startswith("own ") and ": " in parts[len(owns) + 1]:
        name, _, names = parts[len(owns) + 1][4:].partition(": ")
        owns.append((name, names_in(names)))
    clauses = [letters_in(part) for part in parts[len(owns) + 1:]]
    saying = (names_in(parts[0][5:]), tuple(owns), tuple(clauses))
    return saying if fits_saying(saying) else None


def read_saying(text):
    """The saying that has this text, as show_saying tells it."""
    saying = saying_of_text(text)
    if saying is None:
        raise Unreadable(renewed(text))
    return saying


def read_clause(text):
    """The clause, of any names, that has this text, as show_clause tells it."""
    clause = clause_of_text(text)
    if clause is None:
        raise Unreadable(renewed(text))
    return clause
