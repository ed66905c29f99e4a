"""Points 37 and 38 read a second time: texts are made and read by patterns.

Nothing of the package is imported here.
"""

import re

from tests import oracle

NAME = "[a-z]{1,8}"
NAMES = f"(?:-|{NAME}(?: {NAME})*)"
CLAUSE = f"(?:[.]|-?{NAME}(?: -?{NAME})*)"
SAYING = f"pick ({NAMES})((?: ; own {NAME}: {NAMES})*)((?: ; {CLAUSE})*)"


def of_names(names):
    return "-" if not names else " ".join(names)


def of_truths(truths):
    return "-" if not truths else "".join(str(int(truth)) for truth in truths)


def of_clause(clause):
    return "." if not clause else " ".join("-" * (not truth) + name for name, truth in clause)


def of_saying(saying):
    text = "pick " + of_names(saying[0])
    for name, sight in saying[1]:
        text += " ; own " + name + ": " + of_names(sight)
    for clause in saying[2]:
        text += " ; " + of_clause(clause)
    return text


def of_answers(saying, answers):
    texts = [saying[1][k][0] + ": " + of_truths(answers[k]) for k in range(len(answers))]
    return "-" if not texts else " ; ".join(texts)


def of_steps(refutation):
    text = ""
    for step in refutation:
        if step[0] == "play":
            text += ", " + str(step[1]) + " @ " + of_truths(step[2])
        else:
            text += ", " + str(step[1]) + " + " + str(step[2]) + " on " + step[3][0] + " " + of_truths(step[3][1])
    return text[2:]


def names_of(text):
    return () if text == "-" else tuple(text.split(" "))


def letters_of(text):
    return tuple((word.strip("-"), word[0] != "-") for word in re.findall(f"-?{NAME}", text))


def clause_of(text):
    """The clause that has this text, None if none has."""
    if type(text) is not str or not re.fullmatch(CLAUSE, text):
        return None
    return letters_of(text) if oracle.open_clause(letters_of(text)) else None


def saying_of(text):
    """The saying that has this text, None if none has."""
    found = re.fullmatch(SAYING, text) if type(text) is str else None
    if found is None:
        return None
    owns = tuple((name, names_of(names)) for name, names in re.findall(f" ; own ({NAME}): ({NAMES})", found[2]))
    clauses = tuple(letters_of(part) for part in found[3].split(" ; ")[1:])
    saying = (names_of(found[1]), owns, clauses)
    return saying if oracle.saying(saying) else None
