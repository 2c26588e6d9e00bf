"""Tables, questions and indexes."""


def passes_all(filters, cells):
    return all([each.passes(cells) for each in filters])


def without(columns, left_out):
    return [column for column in columns if column not in left_out]


class Filter:
    """A column, and from which value to which one it may be."""

    def __init__(self, column, low, high):
        self.column = column
        self.low = low
        self.high = high

    def passes(self, cells):
        return self.low <= cells[self.column] <= self.high

    def is_equal(self):
        return self.low == self.high

    def is_within(self, other):
        """Whether it lets pass nothing that the other one doesn't."""
        return self.column == other.column and self.low >= other.low and self.high <= other.high


class Group:
    """So many rows, all with the same cells."""

    def __init__(self, cells, rows):
        self.cells = cells
        self.rows = rows


def count_rows(groups):
    return sum([group.rows for group in groups])


class Table:
    """How many columns there are, and the groups as they lie."""

    def __init__(self, width, groups):
        self.width = width
        self.groups = groups


class Question:
    """What is asked of a table, and how often."""

    def __init__(self, filters, order, backwards, wanted, limit, asked):
        self.filters = filters
        self.order = order
        self.backwards = backwards
        self.wanted = wanted
        self.limit = limit
        self.asked = asked

    def finds(self, cells):
        return passes_all(self.filters, cells)

    def equal_columns(self):
        return [each.column for each in self.filters if each.is_equal()]

    def needed_columns(self):
        return [each.column for each in self.filters] + self.order + self.wanted

    def filters_of(self, columns):
        return [each for each in self.filters if each.column in columns]

    def unsettled_order(self):
        """The order's columns in which found rows may differ."""
        return without(self.order, self.equal_columns())


class Index:
    """Keys and included columns; the condition is a filter or None."""

    def __init__(self, key_columns, included, condition):
        self.key_columns = key_columns
        self.included = included
        self.condition = condition

    def own_columns(self):
        return self.key_columns + self.included

    def has_entry(self, cells):
        return self.condition is None or self.condition.passes(cells)

    def room_for(self, table):
        entries = [group for group in table.groups if self.has_entry(group.cells)]
        return count_rows(entries) * (len(self.own_columns()) + 1)

    def serves(self, question):
        if self.condition is None:
            return True
        return any([each.is_within(self.condition) for each in question.filters])

    def covers(self, question):
        return without(question.needed_columns(), self.own_columns()) == []

    def frees_order_of(self, question):
        unsettled = question.unsettled_order()
        unsettled_keys = without(self.key_columns, question.equal_columns())
        return unsettled_keys[:len(unsettled)] == unsettled

    def range_filters(self, question):
        equal = question.equal_columns()
        used = 0
        while used < len(self.key_columns) and self.key_columns[used] in equal:
            used += 1
        return question.filters_of(self.key_columns[:used + 1])
