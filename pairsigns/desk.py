"""A desk, which takes commands as texts and answers them with texts."""

from pairsigns.basics import is_name
from pairsigns.errors import InUse, InvalidCommand, InvalidText
from pairsigns.finding import found_rules
from pairsigns.pages import page_after, token_of
from pairsigns.planning import least_plan
from pairsigns.plans import work_of
from pairsigns.rules import rule_text
from pairsigns.running import plan_output
from pairsigns.stores import Store
from pairsigns.tables import Catalog
from pairsigns.texts import index_with_text, plan_text, read_query, table_with_text
from pairsigns.valuetexts import joined_values, read_number, read_value

# The kinds of the parts behind the first word of each command. The last part is all that follows.
FORMS = {"table": ("text",), "index": ("text",), "insert": ("name", "text"), "remove": ("name", "count"),
         "rows": ("name",), "plan": ("text",), "answer": ("text",), "keep": ("name", "text"), "view": ("name",),
         "token": ("name", "count"), "after": ("name", "count", "text"), "found": ("name",)}
DONE = "ok"
NOTHING = "-"


def parts_of_command(command):
    """The word of a command and the list of its parts, counts as numbers; None for any value that is no command."""
    word = command.partition(" ")[0] if isinstance(command, str) else None
    if word not in FORMS:
        return None
    kinds = FORMS[word]
    texts = command.split(" ", len(kinds))[1:]
    if len(texts) != len(kinds) or not all([is_part(kind, text) for kind, text in zip(kinds, texts)]):
        return None
    return (word, [read_number(text) if kind == "count" else text for kind, text in zip(kinds, texts)])


def is_part(kind, text):
    """Whether a string can be a part of this kind."""
    if kind == "name":
        return is_name(text)
    if kind == "count":
        number = read_number(text)
        return number is not None and number >= 0
    return text != ""


def read_values(text):
    """The list of the values with these texts."""
    values = []
    for part in text.split(","):
        value = read_value(part)
        if value is None:
            raise InvalidText(part)
        values.append(value)
    return values


def lines_of(texts):
    """An answer with these lines."""
    return "\n".join(texts) if len(texts) > 0 else NOTHING


def lines_of_rows(rows):
    """An answer with a line of values for each row."""
    return lines_of([joined_values(row) for row in rows])


class Desk:
    """A catalog and a store that are made and used by commands."""

    def __init__(self):
        self._catalog = None
        self._store = None

    @property
    def catalog(self):
        """The Catalog, None until there is a table."""
        return self._catalog

    @property
    def store(self):
        """The Store, None until there is a table."""
        return self._store

    def say(self, command):
        """Does what a command asks for, and returns its answer."""
        found = parts_of_command(command)
        if found is None or (self._store is None and found[0] != "table"):
            raise InvalidCommand(command)
        word, parts = found
        actions = {"table": self._do_table, "index": self._do_index, "insert": self._do_insert,
                   "remove": self._do_remove, "rows": self._do_rows, "plan": self._do_plan, "answer": self._do_answer,
                   "keep": self._do_keep, "view": self._do_view, "token": self._do_token, "after": self._do_after,
                   "found": self._do_found}
        action = actions[word]
        return action(*parts)

    def _check_unused(self):
        """Raises InUse if the catalog has to stay as it is."""
        if self._store is not None and self._store.is_used():
            raise InUse()

    def _start(self, catalog):
        """Has this catalog and an empty store from now on."""
        self._catalog = catalog
        self._store = Store(catalog)
        return DONE

    def _do_table(self, text):
        """What the command `table` does."""
        self._check_unused()
        found = table_with_text(f"table {text}")
        if found is None:
            raise InvalidText(text)
        name, rules = found
        return self._start(Catalog([*self._listed_tables(), (name, rules, [])]))

    def _listed_tables(self):
        """The list of the tables of the catalog, as a Catalog is passed them."""
        names = () if self._catalog is None else self._catalog.tables
        return [(name, self._catalog.rules_of(name), self._catalog.indexes_of(name)) for name in names]

    def _do_index(self, text):
        """What the command `index` does."""
        self._check_unused()
        found = index_with_text(self._catalog, f"index {text}")
        if found is None:
            raise InvalidText(text)
        table, name, order = found
        return self._start(self._catalog.with_index(table, name, order))

    def _do_insert(self, table, text):
        """What the command `insert` does."""
        return str(self._store.insert(table, read_values(text)))

    def _do_remove(self, table, place):
        """What the command `remove` does."""
        self._store.remove(table, place)
        return DONE

    def _do_rows(self, table):
        """What the command `rows` does."""
        return lines_of([f"{place}: {joined_values(row)}" for place, row in self._store.rows(table)])

    def _do_plan(self, text):
        """What the command `plan` does."""
        plan = least_plan(self._catalog, read_query(self._catalog, text))
        return f"{plan_text(plan)} {work_of(plan)}"

    def _do_answer(self, text):
        """What the command `answer` does."""
        query = read_query(self._catalog, text)
        return lines_of_rows(plan_output(self._store, query, least_plan(self._catalog, query)))

    def _do_keep(self, name, text):
        """What the command `keep` does."""
        query = read_query(self._catalog, text)
        self._store.keep(name, query, least_plan(self._catalog, query))
        return DONE

    def _do_view(self, name):
        """What the command `view` does."""
        return lines_of_rows(self._store.view(name).wanted_rows())

    def _do_token(self, name, position):
        """What the command `token` does."""
        return token_of(self._store.view(name), position)

    def _do_after(self, name, count, token):
        """What the command `after` does."""
        view = self._store.view(name)
        wanted = view.wanted_rows()
        return lines_of_rows([wanted[view.spot(row)] for row in page_after(view, token, count)])

    def _do_found(self, table):
        """What the command `found` does."""
        rows = [row for _, row in self._store.rows(table)]
        rules = found_rules(self._catalog.rules_of(table).columns, rows)
        return lines_of([rule_text(rule) for rule in rules])
