"""Reasons for answers with yes: whether one is right, and on which rules and ranges it rests."""

from pairsigns.asking import is_question
from pairsigns.errors import InvalidQuestion
from pairsigns.ground import Ground
from pairsigns.rules import has_form


def is_reason(stream, question, value):
    """Whether this is a right reason for the question, for any value."""
    if not is_question(stream, question):
        raise InvalidQuestion()
    return is_right(Ground(stream, question), {}, value)


def is_right(ground, decided, value):
    """Whether this is a right reason below the cases that are decided."""
    if has_form(value, "ends", 2):
        return ground.is_true(decided, value[1])
    if not has_form(value, "split", 3):
        return False
    name = ground.head_of(value[1])
    if name is None or name in decided:
        return False
    cases = ground.cases_of(name)
    if not isinstance(value[2], tuple) or len(value[2]) != len(cases):
        return False
    for case, part in zip(cases, value[2]):
        if not is_right(ground, {**decided, name: case}, part):
            return False
    return True


def rests_on(reason):
    """The sorted list of the rules and rooms in a reason."""
    found = {repr(why): why for why in ends_in(reason) if why[0] in ("rule", "room")}
    return [found[text] for text in sorted(found)]


def ends_in(reason):
    """The list of all that the ends of a reason name."""
    if reason[0] == "ends":
        return [reason[1]]
    return [why for part in reason[2] for why in ends_in(part)]
