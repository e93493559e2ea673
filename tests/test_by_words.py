"""The calls against the document's words, taken one by one, on many small graphs."""

import random

from tests.helper import AskCase, ask_on, around, graph_row, keepers, keeps, live, tree, without


def drawn_graph(draw):
    """Objects as lists of (label, weak, lead), and roots."""
    count = draw.randint(1, 6)
    objects = []
    for number in range(count):
        fields = []
        for place in range(draw.choice([0, 1, 1, 2, 2, 3])):
            weak = 1 if draw.random() < 0.15 else 0
            fields.append((draw.randint(0, 199), weak, draw.randrange(count)))
        objects.append(fields)
    return objects, [draw.randrange(count) for place in range(draw.choice([0, 1, 1, 1, 2, 3]))]


def holds_by_words(objects, roots):
    """Each hold as (the object by which it's held or None, where it leads)."""
    strong = [(number, field[2]) for number, fields in enumerate(objects) for field in fields if field[1] == 0]
    return [(None, lead) for lead in roots] + strong


def ways_by_words(holds, taken, cut, most):
    """All ways with at most so many holds, in the order of ways, none by what is barred."""
    open_holds = [k for k, (holder, lead) in enumerate(holds) if k not in cut and lead not in taken]
    ways = [[k] for k in open_holds if holds[k][0] is None]
    told = list(ways)
    for length in range(most - 1):
        ways = [way + [k] for way in ways for k in open_holds if holds[k][0] == holds[way[-1]][1]]
        told += sorted(ways)
    return told


class ByWords:
    """Answers from the definitions, over a graph's ways."""

    def __init__(self, objects, roots):
        self.count = len(objects)
        self.holds = holds_by_words(objects, roots)
        self.live = self.left([], [])
        self.left_without = [self.left([x], []) for x in range(self.count)]

    def left(self, taken, cut):
        reached = set()
        while True:
            more = {
                lead for k, (holder, lead) in enumerate(self.holds)
                if k not in cut and lead not in taken and (holder is None or holder in reached)
            }
            if more <= reached:
                return sorted(reached)
            reached |= more

    def way(self, x, taken, cut):
        for way in ways_by_words(self.holds, taken, cut, self.count):
            if self.holds[way[-1]][1] == x:
                return [0] + way
        return [1]

    def keeps(self, x, y):
        return y in self.live and y not in self.left_without[x]

    def keepers(self, y):
        rest = [x for x in range(self.count) if self.keeps(x, y)]
        ordered = []
        while rest:
            outer, = [x for x in rest if all(self.keeps(x, other) for other in rest)]
            ordered.append(outer)
            rest.remove(outer)
        return ordered

    def tree(self):
        told = [0]
        for y in self.live:
            ordered = self.keepers(y)
            told += [y, ordered[-2] + 1 if len(ordered) > 1 else 0, len(ordered)]
        return told


def some_of(draw, count):
    return [draw.randrange(count) for place in range(draw.choice([0, 1, 2, 3]))] if count else []


class ByWordsTest(AskCase):
    def setUp(self):
        self.draw = random.Random(20)

    def graphs(self):
        for turn in range(400):
            objects, roots = drawn_graph(self.draw)
            yield graph_row([(0, 1, fields) for fields in objects], roots), ByWords(objects, roots)

    def test_live_and_tree(self):
        for numbers, words in self.graphs():
            self.assertEqual(ask_on(numbers, live(), tree()), [[0] + words.live, words.tree()])

    def test_keeps(self):
        for numbers, words in self.graphs():
            pairs = [(x, y) for x in range(words.count) for y in range(words.count)]
            told = ask_on(numbers, *[keeps(x, y) for x, y in pairs])
            self.assertEqual(told, [[0, int(words.keeps(x, y))] for x, y in pairs])

    def test_keepers(self):
        for numbers, words in self.graphs():
            told = ask_on(numbers, *[keepers(y) for y in range(words.count)])
            self.assertEqual(told, [[0] + words.keepers(y) if y in words.live else [-4] for y in range(words.count)])

    def test_without_and_around(self):
        for numbers, words in self.graphs():
            for x in range(words.count):
                taken = some_of(self.draw, words.count)
                cut = some_of(self.draw, len(words.holds))
                told = ask_on(numbers, without(taken, cut), around(x, taken, cut), around(x, [], []))
                self.assertEqual(told, [[0] + words.left(taken, cut), words.way(x, taken, cut), words.way(x, [], [])])
