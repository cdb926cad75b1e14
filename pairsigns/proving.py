"""Finding reasons for questions that no world of the stream breaks."""

from pairsigns.asking import things_of_question
from pairsigns.ground import Ground


def reason_of(stream, question):
    """A right reason for a question about the stream that no world breaks."""
    ground = Ground(stream, question)
    for why in (("asked",), ("list",)):
        if ground.is_true({}, why):
            return ("ends", why)
    return proved(ground, names_to_split(stream, ground, question), {})[0]


def names_to_split(stream, ground, question):
    """The list of what can be split: what the question and the list speak of comes first."""
    things = [*things_of_question(question), *stream.order.columns, *stream.tables, *stream.things]
    return list({ground.head_of(thing): True for thing in things})


def proved(ground, names, decided):
    """A reason below what is decided, and the dict of the decisions that it needs."""
    name, ends = best_split(ground, [name for name in names if name not in decided], decided)
    parts, used = [], {}
    for case, why in zip(ground.cases_of(name), ends):
        below = {**decided, name: case}
        if why is None:
            part, needed = proved(ground, names, below)
        else:
            part, needed = ("ends", why), needed_for(ground, below, why)
        if name not in needed:
            # The split adds nothing, so that what was found for one case is found for all.
            return (part, needed)
        parts.append(part)
        used.update(needed)
    del used[name]
    return (("split", name, tuple(parts)), used)


def best_split(ground, names, decided):
    """The name with the fewest cases that go on, and for each of its cases why it ends, or None."""
    best, fewest = None, None
    for name in names:
        ends = [end_of(ground, {**decided, name: case}, name) for case in ground.cases_of(name)]
        many = ends.count(None)
        if fewest is None or many < fewest:
            best, fewest = (name, ends), many
        if many <= 1:
            break
    return best


def end_of(ground, decided, name):
    """Why the cases that are decided exclude all worlds since this name was decided, or None."""
    for why in ground.ends_of(name):
        if ground.is_true(decided, why):
            return why
    return None


def needed_for(ground, decided, why):
    """The dict of those decisions without which this is no longer a true reason why."""
    needed = dict(decided)
    # The last decisions are left out first, so that splits are made in vain as seldom as possible.
    for name in reversed(list(decided)):
        fewer = {other: case for other, case in needed.items() if other != name}
        if ground.is_true(fewer, why):
            needed = fewer
    return needed
