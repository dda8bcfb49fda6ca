"""Questions: tables with columns and sizes, and the columns by which joined rows are grouped."""

from touchrows.base.ratios import Ratio, ratio_in
from touchrows.base.words import is_ascending_names, is_name
from touchrows.errors import InvalidOperation, InvalidQuestion, ParseError, UnknownName

MAX_TABLES = 6
MAX_COLUMNS = 8
MAX_SIZE = 9
MAX_TABLE_COLUMNS = 6
MAX_SIZE_BOTTOM = 60


class Question:
    """Some tables and group columns; it never changes."""

    def __init__(self, tables, groups, *, sizes=None):
        if not _is_tables(tables) or not _is_groups(groups, tables) or not _is_sizes(sizes, tables):
            raise InvalidQuestion("there is no question with such tables, groups and sizes")
        given = {} if sizes is None else sizes
        self._tables = {name: tables[name] for name in sorted(tables)}
        self._groups = groups
        self._sizes = {name: given.get(name, Ratio(1, 1)) for name in self._tables}
        self._columns = _columns_of(tables)
        self._lines = _lines_of(self._tables, self._groups, self._sizes)

    @classmethod
    def from_lines(cls, *lines):
        """The question that has these lines, in any order."""
        tables, groups, sizes = _parts_in(lines)
        return cls(tables, groups, sizes=sizes)

    @property
    def tables(self):
        return dict(self._tables)

    @property
    def sizes(self):
        return dict(self._sizes)

    @property
    def groups(self):
        return self._groups

    @property
    def names(self):
        return tuple(self._tables)

    @property
    def columns(self):
        return self._columns

    @property
    def lines(self):
        return self._lines

    def tables_with(self, column):
        """The ascending tuple of the tables that have a column."""
        if column not in self._columns:
            raise UnknownName(column)
        return tuple([name for name in self._tables if column in self._tables[name]])

    def with_table(self, name, columns):
        """The question with one more table, or with other columns of one that is there."""
        if not is_name(name):
            raise InvalidQuestion("a table has a name")
        return Question({**self._tables, name: columns}, self._groups, sizes=self._sizes)

    def with_size(self, name, size):
        """The question with another size of a table."""
        if name not in self:
            raise UnknownName(name)
        return Question(self._tables, self._groups, sizes={**self._sizes, name: size})

    def with_groups(self, groups):
        """The question with other group columns."""
        return Question(self._tables, groups, sizes=self._sizes)

    def without_table(self, name):
        """The question with one table less."""
        if name not in self:
            raise UnknownName(name)
        others = [other for other in self._tables if other != name]
        sizes = {other: self._sizes[other] for other in others}
        return Question({other: self._tables[other] for other in others}, self._groups, sizes=sizes)

    def renamed(self, tables, columns):
        """The question with other names for all its tables and columns."""
        if not _is_renaming(tables, self.names) or not _is_renaming(columns, self._columns):
            raise InvalidOperation("names are given to just the tables and just the columns, each one once")
        return Question(
            {tables[name]: _renamed(self._tables[name], columns) for name in self._tables},
            _renamed(self._groups, columns),
            sizes={tables[name]: self._sizes[name] for name in self._tables},
        )

    def __len__(self):
        return len(self._tables)

    def __iter__(self):
        return iter(self._lines)

    def __contains__(self, value):
        return is_name(value) and value in self._tables

    def __eq__(self, other):
        return (
            isinstance(other, Question)
            and self._tables == other._tables
            and self._groups == other._groups
            and self._sizes == other._sizes
        )

    def __str__(self):
        return f"question with {len(self._tables)} tables, {len(self._columns)} columns, {len(self._groups)} groups"


def _columns_of(tables):
    """The ascending tuple of the columns of all tables."""
    return tuple(sorted({column for name in tables for column in tables[name]}))


def _is_tables(value):
    """Whether the value can be the tables of a question."""
    if not isinstance(value, dict) or not 1 <= len(value) <= MAX_TABLES:
        return False
    for name, columns in value.items():
        if not is_name(name) or not is_ascending_names(columns) or not 1 <= len(columns) <= MAX_TABLE_COLUMNS:
            return False
    return len(_columns_of(value)) <= MAX_COLUMNS


def _is_groups(value, tables):
    """Whether the value can be the group columns of a question with these tables."""
    columns = _columns_of(tables)
    return is_ascending_names(value) and all([column in columns for column in value])


def _is_size(value):
    """Whether the value can be the size of a table."""
    if not isinstance(value, Ratio) or value.bottom > MAX_SIZE_BOTTOM:
        return False
    return 0 <= value.top <= MAX_SIZE * value.bottom


def _is_sizes(value, tables):
    """Whether the value can be the sizes of a question with these tables."""
    if value is None:
        return True
    if not isinstance(value, dict):
        return False
    return all([name in tables and _is_size(size) for name, size in value.items()])


def _is_renaming(value, names):
    """Whether the value is a dict from just these names to different names."""
    if not isinstance(value, dict) or len(value) != len(names):
        return False
    if not all([name in value and is_name(value[name]) for name in names]):
        return False
    return len(set(list(value.values()))) == len(names)


def _renamed(names, renaming):
    """The ascending tuple of what the names become."""
    return tuple(sorted([renaming[name] for name in names]))


def _lines_of(tables, groups, sizes):
    """The tuple of the lines of a question."""
    lines = [" ".join(["table", name, *columns]) for name, columns in tables.items()]
    lines.extend([f"size {name} {size}" for name, size in sizes.items() if size.pair != (1, 1)])
    if groups:
        lines.append(" ".join(["group", *groups]))
    return tuple(lines)


def _entry_in(line):
    """What a line of a question tells: its first word, the table that it is for ("" for the groups), and the
    columns or the size behind them; None for a value that is no line.
    """
    word, *rest = line.split(" ") if isinstance(line, str) else [""]
    if word == "group":
        return ("group", "", tuple(rest)) if rest and is_ascending_names(tuple(rest)) else None
    if len(rest) < 2 or not is_name(rest[0]):
        return None
    name, behind = rest[0], tuple(rest[1:])
    if word == "table" and is_ascending_names(behind):
        return ("table", name, behind)
    if word == "size" and len(behind) == 1:
        size = ratio_in(behind[0])
        return None if size is None else ("size", name, size)
    return None


def _parts_in(lines):
    """The tables, the groups and the sizes that lines of a question tell of."""
    told = {}
    for index, line in enumerate(lines):
        entry = _entry_in(line)
        if entry is None or entry[:2] in told:
            raise ParseError(index)
        told[entry[:2]] = entry[2]
    tables = {name: told[word, name] for word, name in told if word == "table"}
    sizes = {name: told[word, name] for word, name in told if word == "size"}
    return tables, told.get(("group", ""), ()), sizes
