"""Rules that are found in rows, and the fewest of them from which the others follow."""

from pairsigns.basics import is_listing, sign_between, tuples_over
from pairsigns.errors import InvalidColumns, InvalidRow, TooMany
from pairsigns.rules import is_columns, names_of
from pairsigns.tables import fault_of_row

SIGNS = (-1, 0, 1)
MOST_ROWS = 60
MOST_COLUMNS = 3


def check_rows(columns, rows):
    """Raises the error for columns or rows in which no rules can be found."""
    if not is_columns(columns):
        raise InvalidColumns(-1)
    if not is_listing(rows):
        raise InvalidRow(-1)
    for position, row in enumerate(rows):
        if fault_of_row(columns, row) is not None:
            raise InvalidRow(position)
    if len(rows) > MOST_ROWS:
        raise TooMany("rows", MOST_ROWS)


def seen_vectors(rows):
    """The list of the vectors, without coming, of each two of the rows, in either sequence."""
    found = {tuple([sign_between(one, other) for one, other in zip(row, rows[at])]): True
             for number, row in enumerate(rows) for at in range(len(rows)) if at != number}
    return list(found)


def has_signs(vector, parts):
    """Whether a vector has these signs, tuples (position of a column, sign)."""
    return all([vector[at] == sign for at, sign in parts])


def holds(seen, parts):
    """Whether no seen vector has these signs."""
    return not any([has_signs(vector, parts) for vector in seen])


def is_least(seen, parts):
    """Whether signs that no seen vector has are there without any one of them, and begin with -1."""
    signs = [sign for _, sign in parts if sign != 0]
    if len(signs) > 0 and signs[0] != -1:
        return False
    fewer = [[part for part in parts if part != left] for left in parts]
    return len(parts) == 1 or not any([holds(seen, some) for some in fewer])


def found_signs(columns, rows):
    """The list of the signs of the found rules, in sequence, each a tuple of tuples (position of a column, sign)."""
    seen = seen_vectors(rows)
    choices = tuples_over((None, *SIGNS), len(columns))
    possible = [tuple([(at, sign) for at, sign in enumerate(choice) if sign is not None]) for choice in choices]
    found = [parts for parts in possible if len(parts) > 0 and holds(seen, parts) and is_least(seen, parts)]
    return sorted(found, key=place_of_rule)


def place_of_rule(parts):
    """By what rules with such signs are sorted: the number of signs, the positions of the columns, the signs."""
    return (len(parts), [at for at, _ in parts], [sign for _, sign in parts])


def rules_with(columns, listed):
    """The list of the never-rules with these signs."""
    names = names_of(columns)
    return [("never", tuple([(names[at], sign) for at, sign in parts])) for parts in listed]


def found_rules(columns, rows):
    """The list of the least never-rules that hold in the rows."""
    check_rows(columns, rows)
    return rules_with(columns, found_signs(columns, rows))


def shortest_rules(columns, rows):
    """The first list of the fewest found rules from which all of them follow."""
    check_rows(columns, rows)
    if len(columns) > MOST_COLUMNS:
        raise TooMany("columns", MOST_COLUMNS)
    listed = found_signs(columns, rows)
    return rules_with(columns, shortest_cover(listed, [broken_by(parts, len(columns)) for parts in listed]))


def broken_by(parts, many):
    """The set of the vectors of so many columns that break a never-rule, its bits their numbers."""
    found = 0
    for number, vector in enumerate(tuples_over(SIGNS, many)):
        if has_signs(vector, parts) or has_signs([-sign for sign in vector], parts):
            found = found | (1 << number)
    return found


def shortest_cover(things, sets):
    """The first list of the fewest of the things of which the sets have together all that all of the sets have."""
    fewest = fewest_needed(sets)
    chosen, covered = [], 0
    for number, thing in enumerate(things):
        more = covered | sets[number]
        # Of two lists that are as short, the earlier one takes a thing that the other one leaves out.
        if fewest[number + 1][more] < fewest[number][covered]:
            chosen.append(thing)
            covered = more
    return chosen


def fewest_needed(sets):
    """For each number of sets, the dict from what some of the first so many sets can have together to the number of
    further ones that are needed to have all."""
    reached = [[0]]
    for some in sets:
        reached.append(list({covered: True for before in reached[-1] for covered in (before, before | some)}))
    never = len(sets) + 1
    whole = max(reached[-1])
    needed = [{covered: 0 if covered == whole else never for covered in reached[-1]}]
    for number, some in reversed(list(enumerate(sets))):
        behind = needed[-1]
        needed.append({covered: min(behind[covered], 1 + behind[covered | some]) for covered in reached[number]})
    return needed[::-1]
