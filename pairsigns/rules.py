"""Rules about the pairs of rows of a table."""

from pairsigns.basics import is_listing, is_name, is_sign, tuples_over
from pairsigns.errors import InvalidColumns, InvalidRule, InvalidText, InvalidVector, TooMany
from pairsigns.signs import entries_text, first_wrong_entry, is_vector, read_entries, read_sign, sign_by, sign_text

COMING = "coming"
MOST_COLUMNS = 4
MOST_ENTRIES = 4


def is_columns(value):
    """Whether these are the columns of a table."""
    if not isinstance(value, tuple) or not 1 <= len(value) <= MOST_COLUMNS:
        return False
    if not all([is_column(column) for column in value]):
        return False
    return len({name for name, _ in value}) == len(value)


def is_column(value):
    """Whether this is a tuple of a name and a kind."""
    if not isinstance(value, tuple) or len(value) != 2:
        return False
    return is_name(value[0]) and isinstance(value[1], str) and value[1] in ("number", "text")


def names_of(pairs):
    """The tuple of the names in columns, or in the signs of a never-rule."""
    return tuple([name for name, _ in pairs])


def is_rule(columns, value):
    """Whether this is a rule for the columns."""
    if not is_columns(columns):
        raise InvalidColumns(-1)
    return is_rule_for(names_of(columns), value)


def is_rule_for(names, value):
    """Whether this is a rule for columns with these names."""
    if has_form(value, "key", 2):
        return is_chosen(names, value[1])
    if has_form(value, "determines", 3):
        return is_chosen(names, value[1]) and is_chosen(names, (value[2],)) and value[2] not in value[1]
    if has_form(value, "orders", 3):
        return is_rule_order(names, value[1]) and is_rule_order(names, value[2])
    return has_form(value, "never", 2) and is_sign_list(names, value[1])


def has_form(value, word, parts):
    """Whether this is a tuple of so many parts, the word first."""
    return isinstance(value, tuple) and len(value) == parts and isinstance(value[0], str) and value[0] == word


def is_chosen(names, value):
    """Whether this is a tuple of some of the names, each once, in their sequence."""
    if not isinstance(value, tuple) or not all([isinstance(name, str) for name in value]):
        return False
    return value == tuple([name for name in names if name in value])


def is_rule_order(names, value):
    """Whether these are entries that can stand on one side of an orders-rule."""
    if not isinstance(value, tuple) or not 1 <= len(value) <= MOST_ENTRIES:
        return False
    if first_wrong_entry(value) is not None:
        return False
    return all([column in (*names, COMING) for column, _ in value])


def is_sign_list(names, value):
    """Whether these are the signs of a never-rule."""
    if not isinstance(value, tuple) or len(value) == 0:
        return False
    if not all([isinstance(part, tuple) and len(part) == 2 and is_sign(part[1]) for part in value]):
        return False
    # The places of two different rows are never alike.
    return is_chosen((*names, COMING), names_of(value)) and (COMING, 0) not in value


def is_row_vector(columns, value):
    """Whether this is the vector of two different rows: the sign of their places comes last."""
    return is_vector(value) and len(value) == len(columns) + 1 and value[-1] != 0


def breaks(columns, rule, vector):
    """Whether two rows with this vector break the rule."""
    if not is_rule(columns, rule):
        raise InvalidRule(-1)
    if not is_row_vector(columns, vector):
        raise InvalidVector(vector)
    return is_broken(rule, signs_by_name(columns, vector))


def signs_by_name(columns, vector):
    """The dict from the names of the columns, and coming, to the signs."""
    return dict(zip((*names_of(columns), COMING), vector))


def is_broken(rule, signs):
    """Whether two rows with these signs by name break the rule."""
    if rule[0] == "key":
        return are_alike(rule[1], signs)
    if rule[0] == "determines":
        return are_alike(rule[1], signs) and signs[rule[2]] != 0
    if rule[0] == "orders":
        return is_out_of_order(sign_by(rule[1], signs), sign_by(rule[2], signs))
    # The rows may be taken either way round.
    return any([have_signs(rule[1], signs, way) for way in (1, -1)])


def are_alike(names, signs):
    """Whether the rows are alike in all of these columns."""
    return all([signs[name] == 0 for name in names])


def is_out_of_order(first, second):
    """Whether the sign by the second order is not as that by the first one asks for, either way round."""
    return (first <= 0 and second > 0) or (first >= 0 and second < 0)


def have_signs(parts, signs, way):
    """Whether the rows have all of the signs of a never-rule; way -1 takes the rows turned."""
    return all([signs[name] == way * sign for name, sign in parts])


def rule_text(rule):
    """The text of a rule for some columns."""
    if not is_rule_for(names_in(rule), rule):
        raise InvalidRule(-1)
    if rule[0] == "key":
        return " ".join(["key", *rule[1]])
    if rule[0] == "determines":
        return " ".join([*rule[1], "->", rule[2]])
    if rule[0] == "orders":
        return f"{entries_text(rule[1])} orders {entries_text(rule[2])}"
    return " ".join(["never", *[name + sign_text(sign) for name, sign in rule[1]]])


def names_in(rule):
    """The names of columns that a rule for some columns would be about, as far as a table can have them."""
    # None of the words of a rule is a name, so all names in it are those of columns.
    found = {name: True for name in flat_names(rule)}
    return tuple(list(found)[:MOST_COLUMNS])


def flat_names(value):
    """The list of all names in a value, in the sequence in which they stand."""
    if isinstance(value, tuple):
        return [name for part in value for name in flat_names(part)]
    return [value] if is_name(value) else []


def read_rule(columns, text):
    """The rule for the columns that has this text."""
    rule = likely_rule(text) if isinstance(text, str) else None
    if not is_rule(columns, rule) or rule_text(rule) != text:
        raise InvalidText(text)
    return rule


def likely_rule(text):
    """The only rule that could have this text; whether it is a rule is not looked at."""
    words = text.split(" ")
    if words[0] == "key":
        return ("key", tuple(words[1:]))
    if words[0] == "never":
        return ("never", tuple([(word[:-1], read_sign(word[-1:])) for word in words[1:]]))
    if "->" in words:
        return ("determines", tuple(words[:-2]), words[-1])
    first, _, second = text.partition(" orders ")
    return ("orders", read_entries(first), read_entries(second))


class Rules:
    """The columns of a table with a list of rules for them."""

    MAX_RULES = 8

    def __init__(self, columns, rules=()):
        if not is_columns(columns):
            raise InvalidColumns(-1)
        if not is_listing(rules):
            raise InvalidRule(-1)
        for position, rule in enumerate(rules):
            if not is_rule_for(names_of(columns), rule) or rule in rules[:position]:
                raise InvalidRule(position)
        if len(rules) > self.MAX_RULES:
            raise TooMany("rules", self.MAX_RULES)
        self._columns = columns
        self._rules = tuple(rules)

    @property
    def columns(self):
        """The columns, a tuple."""
        return self._columns

    @property
    def rules(self):
        """The tuple of the rules."""
        return self._rules

    def names(self):
        """The tuple of the names of the columns."""
        return names_of(self._columns)

    def lets(self, vector):
        """Whether two rows with this vector break none of the rules."""
        return self.first_broken(vector) is None

    def first_broken(self, vector):
        """The first rule that two rows with this vector break, or None."""
        if not is_row_vector(self._columns, vector):
            raise InvalidVector(vector)
        signs = signs_by_name(self._columns, vector)
        for rule in self._rules:
            if is_broken(rule, signs):
                return rule
        return None

    def vectors(self):
        """The sorted list of the let vectors."""
        begun = tuples_over((-1, 0, 1), len(self._columns))
        return [(*signs, coming) for signs in begun for coming in (-1, 1) if self.lets((*signs, coming))]

    def with_rule(self, rule):
        """New Rules with this rule added at the end."""
        if not is_rule_for(self.names(), rule) or rule in self._rules:
            raise InvalidRule(-1)
        return Rules(self._columns, [*self._rules, rule])

    def without(self, rule):
        """New Rules with this rule taken out."""
        if rule not in self:
            raise InvalidRule(-1)
        return Rules(self._columns, [kept for kept in self._rules if kept != rule])

    def __len__(self):
        return len(self._rules)

    def __contains__(self, rule):
        return is_rule_for(names_of(self._columns), rule) and rule in self._rules

    def __eq__(self, other):
        return isinstance(other, Rules) and self._columns == other._columns and self._rules == other._rules
