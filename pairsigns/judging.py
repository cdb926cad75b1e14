"""What follows from rules: other rules, keys, determined columns, and what three rows can show."""

from pairsigns.basics import tuples_over
from pairsigns.errors import InvalidName, InvalidRule, TooMany, Unlike
from pairsigns.rules import COMING, Rules, are_alike, is_broken, is_rule_for, signs_by_name
from pairsigns.weakorders import pair_sign, weak_orders

SIGNS = (-1, 0, 1)
MOST_NAMES = 3


def follows(rules, rule):
    """Whether the rule follows from the rules: ("yes", the rules needed), or ("no", one row, other row)."""
    if not is_rule_for(rules.names(), rule):
        raise InvalidRule(-1)
    vector = refuting_vector(rules.columns, rules.rules, rule)
    if vector is None:
        return ("yes", remaining(rules, rule))
    one, other = rows_with(rules.columns, vector)
    return ("no", one, other)


def refuting_vector(columns, rules, rule):
    """A vector that the rules let and that breaks the rule, the row with the smaller place first, or None."""
    for begun in tuples_over(SIGNS, len(columns)):
        # A vector and the turned one break the same rules, so one of the two is enough.
        vector = (*begun, -1)
        signs = signs_by_name(columns, vector)
        if is_broken(rule, signs) and not any([is_broken(kept, signs) for kept in rules]):
            return vector
    return None


def remaining(rules, rule=None):
    """The list of the rules that remain if from the last one to the first one each is taken out without which
    the rule still follows; with no rule given, if each is taken out that itself still follows."""
    kept = list(rules.rules)
    for taken in reversed(rules.rules):
        fewer = [other for other in kept if other != taken]
        asked = taken if rule is None else rule
        if refuting_vector(rules.columns, fewer, asked) is None:
            kept = fewer
    return kept


def rows_with(columns, vector):
    """Two rows that have the signs of this vector in their columns."""
    choices = [("a", "b") if kind == "text" else (0, 1) for _, kind in columns]
    one = tuple([choice[1 if sign > 0 else 0] for choice, sign in zip(choices, vector)])
    other = tuple([choice[1 if sign < 0 else 0] for choice, sign in zip(choices, vector)])
    return (one, other)


def same_rules(one, other):
    """Whether the two Rules let the same vectors."""
    if one.columns != other.columns:
        raise Unlike()
    return one.vectors() == other.vectors()


def left_out(rules):
    """The Rules without those that follow from the other ones that remain."""
    return Rules(rules.columns, remaining(rules))


def let_signs(rules):
    """The list of the let vectors, each as a dict from names to signs."""
    return [signs_by_name(rules.columns, vector) for vector in rules.vectors()]


def parts_of(names):
    """All tuples of some of the names, in their sequence."""
    chosen = tuples_over((False, True), len(names))
    return [tuple([name for name, taken in zip(names, choice) if taken]) for choice in chosen]


def least_keys(rules):
    """The sorted list of the keys of which no smaller part is a key."""
    let = let_signs(rules)
    keys = [part for part in parts_of(rules.names()) if not any([are_alike(part, signs) for signs in let])]
    return sorted([key for key in keys if not any([is_smaller_part(other, key) for other in keys])])


def is_smaller_part(names, others):
    """Whether the names are some of the others, but not all of them."""
    return len(names) < len(others) and all([name in others for name in names])


def determined(rules, names):
    """The tuple of the names of all columns that these columns determine."""
    for name in names:
        if not isinstance(name, str) or name not in rules.names():
            raise InvalidName(name)
    alike = [signs for signs in let_signs(rules) if are_alike(names, signs)]
    return tuple([column for column in rules.names() if all([signs[column] == 0 for signs in alike])])


def triples_of(rules, names):
    """The sorted list of the triples for these names of columns, or coming."""
    things = (*rules.names(), COMING)
    for position, name in enumerate(names):
        if not isinstance(name, str) or name not in things or name in names[:position]:
            raise InvalidName(name)
    if len(names) > MOST_NAMES:
        raise TooMany("names", MOST_NAMES)
    spots = [things.index(name) for name in names]
    ranks = ranks_by_signs()
    parts = sorted({tuple([ranks[(one[at], other[at], both[at])] for at in spots])
                    for one, other, both in vectors_of_three(rules)})
    # What three rows can be, they can be in any sequence, and weak orders without alike rows are all sequences.
    sequences = [sequence for sequence in ranks.values() if len(set(sequence)) == len(sequence)]
    return sorted({rearranged(part, sequence) for part in parts for sequence in sequences})


def rearranged(part, sequence):
    """The weak orders of three rows with the rows in another sequence."""
    return tuple([tuple([ranks[row] for row in sequence]) for ranks in part])


def ranks_by_signs():
    """The dict from the signs of rows 0 and 1, 1 and 2, and 0 and 2 to the weak order that has them."""
    return {(pair_sign(ranks, 0, 1), pair_sign(ranks, 1, 2), pair_sign(ranks, 0, 2)): ranks for ranks in weak_orders(3)}


def vectors_of_three(rules):
    """The let vectors of rows 0 and 1, 1 and 2, and 0 and 2 of all three rows that come in this sequence."""
    let = [vector[:-1] for vector in rules.vectors() if vector[-1] == -1]
    begun = {vector[:many]: True for vector in let for many in range(len(vector) + 1)}
    fitting = list(ranks_by_signs())
    found = [((), (), ())] if let else []
    for _ in rules.columns:
        longer = [((*one, first), (*other, second), (*both, third))
                  for one, other, both in found for first, second, third in fitting]
        found = [vectors for vectors in longer if all([vector in begun for vector in vectors])]
    return [((*one, -1), (*other, -1), (*both, -1)) for one, other, both in found]
