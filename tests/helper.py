"""What all tests share: writing calls down, asking them, and graphs to ask about."""

import unittest

from whokeepsdesk.graph import answers

FAR = 10 ** 18

EXAMPLE = [
    5,
    0, 1, 2, 0, 0, 1, 1, 0, 2,
    0, 10, 1, 0, 0, 3,
    0, 20, 2, 0, 0, 3, 2, 1, 4,
    0, 40, 1, 0, 0, 1,
    0, 80, 0,
    2, 0, 2,
]


def load(row):
    return [0, len(row)] + row


def row():
    return [1]


def holds():
    return [2]


def live():
    return [3]


def without(objects, cut):
    return [4, len(objects)] + objects + [len(cut)] + cut


def around(x, objects, cut):
    return [5, x, len(objects)] + objects + [len(cut)] + cut


def keeps(x, y):
    return [6, x, y]


def keepers(y):
    return [7, y]


def tree():
    return [8]


def undo():
    return [17]


def graph_row(objects, roots):
    """A graph row: each object is (kind, size, fields), each field (label, weak, lead)."""
    numbers = [len(objects)]
    for kind, size, fields in objects:
        numbers += [kind, size, len(fields)]
        for field in fields:
            numbers += field
    return numbers + [len(roots)] + roots


def strong_row(leads, roots):
    """A graph row of strong fields alone: for each object the objects to which it leads."""
    objects = [(0, 1, [(0, 0, lead) for lead in own]) for own in leads]
    return graph_row(objects, roots)


def split_answers(told):
    parts = []
    at = 0
    while at < len(told):
        parts.append(told[at + 1:at + 1 + told[at]])
        at += 1 + told[at]
    return parts


def ask(*calls):
    """The answers, call by call, on a new object."""
    line = []
    for call in calls:
        line += call
    return split_answers(answers(line))


def ask_on(numbers, *calls):
    """The answers on the graph that a row tells, without that of load."""
    told = ask(load(numbers), *calls)
    if told[0][0] != 0:
        raise AssertionError(f"the row is refused: {numbers}")
    return told[1:]


class AskCase(unittest.TestCase):
    def assert_answers(self, numbers, call, expected):
        self.assertEqual(ask_on(numbers, call), [expected])
