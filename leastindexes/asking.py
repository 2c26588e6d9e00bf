"""What one asking of a question costs."""

from leastindexes.words import Group, count_rows, passes_all

ENTRY_TOUCHED = 1
ROW_TOUCHED = 2
ROW_SORTED = 3
LOOK_UP = 4


def touched_groups(groups, question, free):
    """The groups as far as they are touched, the last one perhaps in part."""
    # Without a free order the first rows found needn't come first in the order, so no limit ends it.
    if not free or question.limit == 0:
        return groups
    touched = []
    missing = question.limit
    for group in groups:
        rows = group.rows
        if question.finds(group.cells):
            rows = min(rows, missing)
            missing -= rows
        touched.append(Group(group.cells, rows))
        if missing == 0:
            break
    return touched


def sorting_cost(touched, question, free):
    if free:
        return 0
    return ROW_SORTED * count_rows([group for group in touched if question.finds(group.cells)])


def look_up_cost(touched, question, index):
    if index.covers(question):
        return 0
    known = question.filters_of(index.own_columns())
    return LOOK_UP * count_rows([group for group in touched if passes_all(known, group.cells)])


def entries_in_range(table, question, index):
    """The groups in the index's range, in the order in which they are touched."""
    filters = index.range_filters(question)
    groups = [group for group in table.groups if index.has_entry(group.cells) and passes_all(filters, group.cells)]
    groups = sorted(groups, key=lambda group: [group.cells[column] for column in index.key_columns])
    if question.backwards:
        return list(reversed(groups))
    return groups


def cost_by_table(table, question):
    free = question.unsettled_order() == []
    touched = touched_groups(table.groups, question, free)
    return ROW_TOUCHED * count_rows(touched) + sorting_cost(touched, question, free)


def cost_by_index(table, question, index):
    free = index.frees_order_of(question)
    touched = touched_groups(entries_in_range(table, question, index), question, free)
    cost = ENTRY_TOUCHED * count_rows(touched)
    return cost + look_up_cost(touched, question, index) + sorting_cost(touched, question, free)
