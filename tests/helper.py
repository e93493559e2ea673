"""What all tests share: writing calls down, asking them, and graphs to ask about."""

import unittest

from whokeepsdesk.graph import answers

FAR = 10 ** 18

EXAMPLE = [
    5,
    0, 1, 2, 0, 0, 1, 1, 0, 2,
    0, 10, 1, 0, 0, 3,
    0, 20, 2, 0, 0, 3, 2, 1, 4,
    0, 40, 1, 0, 0, 1,
    0, 80, 0,
    2, 0, 2,
]


def load(numbers):
    return [0, len(numbers)] + numbers


def row():
    return [1]


def holds():
    return [2]


def live():
    return [3]


def without(objects, cut_holds):
    return [4, len(objects)] + objects + [len(cut_holds)] + cut_holds


def around(x, objects, cut_holds):
    return [5, x, len(objects)] + objects + [len(cut_holds)] + cut_holds


def keeps(x, y):
    return [6, x, y]


def keepers(y):
    return [7, y]


def tree():
    return [8]


def kept(objects):
    return [9, len(objects)] + objects


def sizes():
    return [10]


def kinds():
    return [11]


def frees(cut_holds):
    return [12, len(cut_holds)] + cut_holds


def best():
    return [13]


def cut(x):
    return [14, x]


def ways(x):
    return [15, x]


def release(gone):
    return [16, len(gone)] + gone


def undo():
    return [17]


def graph_row(objects, roots):
    """A graph row: each object is (kind, size, fields), each field (label, weak, lead)."""
    numbers = [len(objects)]
    for kind, size, fields in objects:
        numbers += [kind, size, len(fields)]
        for field in fields:
            numbers += field
    return numbers + [len(roots)] + roots


def strong_row(leads, roots):
    """A graph row of strong fields alone: for each object the objects to which it leads."""
    return sized_row([1] * len(leads), leads, roots)


def sized_row(own_sizes, leads, roots):
    """A row as strong_row's, and each object's size."""
    objects = [(0, size, [(0, 0, lead) for lead in own]) for size, own in zip(own_sizes, leads, strict=True)]
    return graph_row(objects, roots)


# All at its greatest: 16 roots to object 0, each object up to 13 with all its fields to the one behind it, 12 of each
# but 4 of object 13; from 15 on all are lost.
GREATEST = graph_row(
    [(99, 1000000, [(199, 0, number + 1)] * 12) for number in range(13)]
    + [(98, 1000000, [(199, 0, 14)] * 4)]
    + [(97, 1000000, [])] * 34,
    [0] * 16,
)


def split_answers(told):
    parts = []
    at = 0
    while at < len(told):
        parts.append(told[at + 1:at + 1 + told[at]])
        at += 1 + told[at]
    return parts


def ask(*calls):
    """The answers, call by call, on a new object."""
    line = []
    for call in calls:
        line += call
    return split_answers(answers(line))


def ask_on(numbers, *calls):
    """The answers on the graph that a row tells, without that of load."""
    told = ask(load(numbers), *calls)
    if told[0][0] != 0:
        raise AssertionError(f"the row is refused: {numbers}")
    return told[1:]


class AskCase(unittest.TestCase):
    def assert_answers(self, numbers, call, expected):
        self.assertEqual(ask_on(numbers, call), [expected])
