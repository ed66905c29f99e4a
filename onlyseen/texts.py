"""Texts of clauses, sayings, answers and refutations. What is handed in is right: nothing is checked."""


def words_of(names):
    """Names with blanks between; a dash for none."""
    return " ".join(names) or "-"


def digits_of(truths):
    """Truths as 0 and 1; a dash for none."""
    return "".join(["1" if truth else "0" for truth in truths]) or "-"


def show_clause(clause):
    """The text of a clause."""
    return " ".join([name if truth else "-" + name for name, truth in clause]) or "."


def show_saying(saying):
    """The text of a saying."""
    picks, owns, clauses = saying
    parts = ["pick " + words_of(picks)]
    parts.extend([f"own {name}: {words_of(sight)}" for name, sight in owns])
    parts.extend([show_clause(clause) for clause in clauses])
    return " ; ".join(parts)


def show_answers(saying, answers):
    """The text of answers of a saying."""
    return " ; ".join([f"{own[0]}: {digits_of(table)}" for own, table in zip(saying[1], answers)]) or "-"


def step_text(step):
    """The text of one step of a refutation."""
    if step[0] == "play":
        _, index, play = step
        return f"{index} @ {digits_of(play)}"
    _, with_true, with_false, copy = step
    name, truths = copy
    return f"{with_true} + {with_false} on {name} {digits_of(truths)}"


def show_steps(saying, refutation):
    """The text of a refutation of a saying."""
    return ", ".join([step_text(step) for step in refutation])
