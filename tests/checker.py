"""Points 6 and 12 read a second time, with plain sets: what steps tell, and whether they are a refutation.

Nothing of the package is imported here.
"""

from tests import oracle


def integer(value):
    return type(value) is int


def told_by(of, step, ahead, every):
    """The set of the marked letters that a step tells behind those that told these sets; None if it is none."""
    if type(step) is not tuple or not step or type(step[0]) is not str:
        return None
    if step[0] == "play" and len(step) == 3:
        _, number, at = step
        if not integer(number) or not 0 <= number < len(of[2]) or not oracle.play(of, at):
            return None
        letters = oracle.letters_at(of, of[2][number], at)
        return None if letters is None else frozenset(letters)
    if step[0] == "join" and len(step) == 4:
        _, i, j, copy = step
        for number in (i, j):
            if not integer(number) or not 0 <= number < len(ahead):
                return None
        if repr(copy) not in every:
            return None
        so, not_so = copy + (True,), copy + (False,)
        if so not in ahead[i] or not_so not in ahead[j]:
            return None
        found = (ahead[i] | ahead[j]) - {so, not_so}
        if any((name, what, not truth) in found for name, what, truth in found):
            return None
        return found
    return None


def told(of, steps):
    """The sets that steps tell, and the index of the first one that is no step (None if all are some)."""
    every = {repr(copy) for copy in oracle.copies(of)}
    found = []
    for index, step in enumerate(steps):
        one = told_by(of, step, found, every)
        if one is None:
            return found, index
        found.append(one)
    return found, None


def refutes(of, value):
    """Whether an object is a refutation."""
    if type(value) is not tuple or value == ():
        return False
    found, wrong = told(of, value)
    return wrong is None and not found[-1]


def behind(refutation):
    """The indexes of the steps from which the last one comes, gone back to one by one."""
    found = set()
    waiting = [len(refutation) - 1]
    while waiting:
        index = waiting.pop()
        if index not in found:
            found.add(index)
            if refutation[index][0] == "join":
                waiting += refutation[index][1:3]
    return sorted(found)


def trimmed(refutation):
    """The steps from which the last one comes, numbered anew."""
    kept = behind(refutation)
    found = []
    for index in kept:
        step = refutation[index]
        if step[0] == "join":
            step = ("join", kept.index(step[1]), kept.index(step[2]), step[3])
        found.append(step)
    return tuple(found)


def used(refutation):
    """The indexes of the clauses of the steps from which the last one comes."""
    return tuple(sorted({refutation[index][1] for index in behind(refutation) if refutation[index][0] == "play"}))
