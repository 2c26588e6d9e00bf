"""Reads tables, questions and indexes that are told as numbers."""

from leastindexes.words import Filter, Group, Index, Question, Table

MOST_COLUMNS = 4
MOST_GROUPS = 12
MOST_ROWS = 1000000
HIGHEST_VALUE = 9
HIGHEST_LIMIT = 1000000
MOST_ASKED = 1000


class NotWhole(Exception):
    """The numbers aren't whole what they are to be."""


class Reader:
    """Takes the numbers of a list one after another."""

    def __init__(self, told):
        self.told = told
        self.place = 0

    def take(self, lowest, highest):
        if self.place == len(self.told):
            raise NotWhole()
        number = self.told[self.place]
        if number < lowest or number > highest:
            raise NotWhole()
        self.place += 1
        return number

    def finish(self):
        if self.place < len(self.told):
            raise NotWhole()


def take_group(reader, width):
    cells = [reader.take(0, HIGHEST_VALUE) for column in range(width)]
    return Group(cells, reader.take(1, MOST_ROWS))


def take_filter(reader, width):
    column = reader.take(0, width - 1)
    low = reader.take(0, HIGHEST_VALUE)
    return Filter(column, low, reader.take(low, HIGHEST_VALUE))


def take_filters(reader, width):
    filters = []
    for place in range(reader.take(0, width)):
        one = take_filter(reader, width)
        if one.column in [each.column for each in filters]:
            raise NotWhole()
        filters.append(one)
    return filters


def take_columns(reader, width, fewest, taken):
    """Columns that are unlike one another and unlike those taken already."""
    columns = []
    for place in range(reader.take(fewest, width)):
        column = reader.take(0, width - 1)
        if column in columns or column in taken:
            raise NotWhole()
        columns.append(column)
    return columns


def take_condition(reader, width):
    if reader.take(0, 1) == 0:
        return None
    return take_filter(reader, width)


def read_table(told):
    reader = Reader(told)
    width = reader.take(1, MOST_COLUMNS)
    groups = []
    for place in range(reader.take(0, MOST_GROUPS)):
        group = take_group(reader, width)
        if group.cells in [each.cells for each in groups]:
            raise NotWhole()
        groups.append(group)
    reader.finish()
    return Table(width, groups)


def read_question(told, width):
    reader = Reader(told)
    filters = take_filters(reader, width)
    order = take_columns(reader, width, 0, [])
    backwards = reader.take(0, 1) == 1
    wanted = take_columns(reader, width, 0, [])
    limit = reader.take(0, HIGHEST_LIMIT)
    asked = reader.take(0, MOST_ASKED)
    reader.finish()
    return Question(filters, order, backwards, wanted, limit, asked)


def read_index(told, width):
    reader = Reader(told)
    key_columns = take_columns(reader, width, 1, [])
    included = take_columns(reader, width, 0, key_columns)
    condition = take_condition(reader, width)
    reader.finish()
    return Index(key_columns, included, condition)
