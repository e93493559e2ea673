"""Graphs, and the rows of whole numbers that tell them."""

from whokeepsdesk.reader import Reader

MOST_OBJECTS = 48
MOST_KIND = 99
MOST_SIZE = 1000000
MOST_FIELDS_OF_ONE = 12
MOST_FIELDS = 160
MOST_LABEL = 199
MOST_ROOTS = 16

# Whose holds the roots are. Object k is the holder k + 1, so that one list has both.
ROOTS_HOLDER = 0


class NoGraphRow(ValueError):
    """A list isn't built as a graph row is, or leaves the bounds."""


class Field:
    """A field of an object; weak is 1 or 0, as in a row."""

    def __init__(self, label, weak, lead):
        self.label = label
        self.weak = weak
        self.lead = lead


class Hold:
    """A root or a strong field, by its holder and its place there."""

    def __init__(self, holder, place, lead):
        self.holder = holder
        self.place = place
        self.lead = lead


class Graph:
    """A graph, which stays as it is once it's made."""

    def __init__(self, kinds, sizes, fields, roots):
        self.kinds = kinds
        self.sizes = sizes
        self.fields = fields
        self.roots = roots
        self.holds = number_holds(roots, fields)
        self.held = group_by_end([hold.holder for hold in self.holds], len(fields) + 1)
        self.leading = group_by_end([holder_of(hold.lead) for hold in self.holds], len(fields) + 1)


def empty_graph():
    return Graph([], [], [], [])


def number_holds(roots, fields):
    holds = []
    for place, lead in enumerate(roots):
        holds.append(Hold(ROOTS_HOLDER, place, lead))
    for number, own in enumerate(fields):
        for place, field in enumerate(own):
            if field.weak == 0:
                holds.append(Hold(holder_of(number), place, field.lead))
    return holds


def holder_of(number):
    return number + 1


def group_by_end(ends, holders):
    """For each holder the numbers of the holds that have this end, rising."""
    grouped = [[] for holder in range(holders)]
    for number, end in enumerate(ends):
        grouped[end].append(number)
    return grouped


def size_of(graph, numbers):
    """The sizes of these objects together."""
    return sum([graph.sizes[number] for number in numbers])


def read_graph(row):
    """The graph that a row tells; raises NoGraphRow if it's none."""
    reader = Reader(row)
    count = take_up_to(reader, MOST_OBJECTS)
    kinds = []
    sizes = []
    fields = []
    for number in range(count):
        kinds.append(take_up_to(reader, MOST_KIND))
        sizes.append(take_up_to(reader, MOST_SIZE))
        fields.append(read_fields(reader, count))
    roots = read_roots(reader, count)
    if not reader.ended() or sum([len(own) for own in fields]) > MOST_FIELDS:
        raise NoGraphRow()
    return Graph(kinds, sizes, fields, roots)


def read_fields(reader, count):
    fields = []
    for place in range(take_up_to(reader, MOST_FIELDS_OF_ONE)):
        label = take_up_to(reader, MOST_LABEL)
        weak = take_up_to(reader, 1)
        lead = take_up_to(reader, count - 1)
        fields.append(Field(label, weak, lead))
    return fields


def read_roots(reader, count):
    roots = []
    for place in range(take_up_to(reader, MOST_ROOTS)):
        roots.append(take_up_to(reader, count - 1))
    return roots


def take_up_to(reader, most):
    if reader.ended():
        raise NoGraphRow()
    number = reader.take()
    if number < 0 or number > most:
        raise NoGraphRow()
    return number


def tell_row(graph):
    row = [len(graph.kinds)]
    for kind, size, own in zip(graph.kinds, graph.sizes, graph.fields):
        row.extend([kind, size, len(own)])
        for field in own:
            row.extend([field.label, field.weak, field.lead])
    row.append(len(graph.roots))
    row.extend(graph.roots)
    return row
