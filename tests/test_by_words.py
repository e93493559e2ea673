"""The calls against the document's words, taken one by one, on many small graphs."""

import itertools
import random

from tests.helper import (
    AskCase, around, ask_on, best, cut, frees, graph_row, keepers, keeps, kept, kinds, live, release, row, sizes, tree,
    undo, ways, without,
)


def drawn_graph(draw, most_objects=6, most_roots=3):
    """Objects as (kind, size, list of (label, weak, lead)), and roots."""
    count = draw.randint(1, most_objects)
    objects = []
    for number in range(count):
        fields = []
        for place in range(draw.choice([0, 1, 1, 2, 2, 3])):
            weak = 1 if draw.random() < 0.15 else 0
            fields.append((draw.randint(0, 199), weak, draw.randrange(count)))
        objects.append((draw.randint(0, 2), draw.choice([0, 0, 1, 1, 2, 3]), fields))
    return objects, [draw.randrange(count) for place in range(draw.randint(0, most_roots))]


def holds_by_words(objects, roots):
    """Each hold as (the object by which it's held or None, where it leads)."""
    strong = [(number, field[2]) for number, each in enumerate(objects) for field in each[2] if field[1] == 0]
    return [(None, lead) for lead in roots] + strong


def ways_by_words(holds, taken, barred, most):
    """All ways with at most so many holds, in the order of ways, none by what is barred."""
    open_holds = [k for k, (holder, lead) in enumerate(holds) if k not in barred and lead not in taken]
    found = [[k] for k in open_holds if holds[k][0] is None]
    told = list(found)
    for length in range(most - 1):
        found = [way + [k] for way in found for k in open_holds if holds[k][0] == holds[way[-1]][1]]
        told += sorted(found)
    return told


class ByWords:
    """Answers from the definitions, over a graph's ways."""

    def __init__(self, objects, roots):
        self.objects = objects
        self.roots = roots
        self.count = len(objects)
        self.holds = holds_by_words(objects, roots)
        self.live = self.left([], [])
        self.left_without = [self.left([x], []) for x in range(self.count)]
        self.parted = {}

    def left(self, taken, barred):
        reached = set()
        while True:
            more = {
                lead for k, (holder, lead) in enumerate(self.holds)
                if k not in barred and lead not in taken and (holder is None or holder in reached)
            }
            if more <= reached:
                return sorted(reached)
            reached |= more

    def way(self, x, taken, barred):
        for way in ways_by_words(self.holds, taken, barred, self.count):
            if self.holds[way[-1]][1] == x:
                return [0] + way
        return [1]

    def keeps(self, x, y):
        return y in self.live and y not in self.left_without[x]

    def keepers(self, y):
        rest = [x for x in range(self.count) if self.keeps(x, y)]
        ordered = []
        while rest:
            outer, = [x for x in rest if all(self.keeps(x, other) for other in rest)]
            ordered.append(outer)
            rest.remove(outer)
        return ordered

    def tree(self):
        told = [0]
        for y in self.live:
            ordered = self.keepers(y)
            told += [y, ordered[-2] + 1 if len(ordered) > 1 else 0, len(ordered)]
        return told

    def gone(self, taken, barred):
        still = self.left(taken, barred)
        return [y for y in self.live if y not in still]

    def size(self, numbers):
        return sum(self.objects[number][1] for number in numbers)

    def sized(self, numbers):
        return [0, self.size(numbers)] + numbers

    def sizes(self):
        """Puts the one that no other comes before to the front, again and again."""
        rest = {x: self.size([y for y in self.live if self.keeps(x, y)]) for x in self.live}
        told = [0]
        while rest:
            greatest = [x for x in rest if all(rest[x] >= rest[other] for other in rest)]
            told += [min(greatest), rest.pop(min(greatest))]
        return told

    def kinds(self):
        told = [0]
        for kind in range(100):
            own = [x for x in self.live if self.objects[x][0] == kind]
            if own:
                told += [kind, len(own), self.size(own), self.size(self.gone(own, []))]
        return told

    def best(self):
        freed = {k: self.gone([], [k]) for k in range(len(self.holds))}
        some = [k for k in freed if freed[k]]
        if not some:
            return [1]
        size = max(self.size(freed[k]) for k in some)
        some = [k for k in some if self.size(freed[k]) == size]
        most = max(len(freed[k]) for k in some)
        return [0, min(k for k in some if len(freed[k]) == most), size, most]

    def fewest_cuts(self, x):
        for length in range(1, len(self.holds) + 1):
            cuts = itertools.combinations(range(len(self.holds)), length)
            found = [list(each) for each in cuts if x in self.gone([], each)]
            if found:
                return found

    def told_cut(self, x):
        cuts = self.fewest_cuts(x)
        fewest = min(len(self.left([], each)) for each in cuts)
        told, = [each for each in cuts if len(self.left([], each)) == fewest]
        return told

    def ways_from(self, way, x, left):
        """All ways to x that begin so, by these holds and by none twice."""
        found = [way] if self.holds[way[-1]][1] == x else []
        for k in left:
            if k not in way and self.holds[k][0] == self.holds[way[-1]][1]:
                found += self.ways_from(way + [k], x, left)
        return found

    def most_parted(self, x, left):
        """How many ways by these holds, none in two, can be found at most: all are tried."""
        if (x, left) not in self.parted:
            firsts = [k for k in left if self.holds[k][0] is None]
            most = 0
            if firsts:
                most = self.most_parted(x, left - {firsts[0]})
                for way in self.ways_from([firsts[0]], x, left):
                    most = max(most, 1 + self.most_parted(x, left - set(way)))
            self.parted[(x, left)] = most
        return self.parted[(x, left)]

    def holds_left(self, x):
        left = frozenset(range(len(self.holds)))
        most = self.most_parted(x, left)
        for k in range(len(self.holds)):
            if self.most_parted(x, left - {k}) == most:
                left -= {k}
        return sorted(left)

    def told_ways(self, x, left):
        """How the ways are read off the holds that are left."""
        told = []
        for first in [k for k in left if self.holds[k][0] is None]:
            told.append([first])
            while self.holds[told[-1][-1]][1] != x:
                at = self.holds[told[-1][-1]][1]
                stand = [k for way in told for k in way]
                told[-1].append(min(k for k in left if self.holds[k][0] == at and k not in stand))
        return told

    def released(self, gone):
        """The row without these holds, which are counted off field by field."""
        number = len(self.roots)
        objects = []
        for kind, size, fields in self.objects:
            stay = []
            for field in fields:
                if field[1] == 1 or number not in gone:
                    stay.append(field)
                number += 1 - field[1]
            objects.append((kind, size, stay))
        return graph_row(objects, [lead for k, lead in enumerate(self.roots) if k not in gone])


def ways_told(many):
    told = [0, len(many)]
    for way in many:
        told += [len(way)] + way
    return told


def some_of(draw, count):
    return [draw.randrange(count) for place in range(draw.choice([0, 1, 2, 3]))] if count else []


class ByWordsTest(AskCase):
    def setUp(self):
        self.draw = random.Random(20)

    def graphs(self, turns=400, most_objects=6, most_roots=3):
        for turn in range(turns):
            objects, roots = drawn_graph(self.draw, most_objects, most_roots)
            yield graph_row(objects, roots), ByWords(objects, roots)

    def test_live_and_tree(self):
        for numbers, words in self.graphs():
            self.assertEqual(ask_on(numbers, live(), tree()), [[0] + words.live, words.tree()])

    def test_keeps(self):
        for numbers, words in self.graphs():
            pairs = [(x, y) for x in range(words.count) for y in range(words.count)]
            told = ask_on(numbers, *[keeps(x, y) for x, y in pairs])
            self.assertEqual(told, [[0, int(words.keeps(x, y))] for x, y in pairs])

    def test_keepers(self):
        for numbers, words in self.graphs():
            told = ask_on(numbers, *[keepers(y) for y in range(words.count)])
            self.assertEqual(told, [[0] + words.keepers(y) if y in words.live else [-4] for y in range(words.count)])

    def test_without_and_around(self):
        for numbers, words in self.graphs():
            for x in range(words.count):
                taken = some_of(self.draw, words.count)
                barred = some_of(self.draw, len(words.holds))
                told = ask_on(numbers, without(taken, barred), around(x, taken, barred), around(x, [], []))
                expected = [[0] + words.left(taken, barred), words.way(x, taken, barred), words.way(x, [], [])]
                self.assertEqual(told, expected)

    def test_kept_and_frees(self):
        for numbers, words in self.graphs():
            for turn in range(5):
                taken = some_of(self.draw, words.count)
                barred = some_of(self.draw, len(words.holds))
                told = ask_on(numbers, kept(taken), frees(barred))
                self.assertEqual(told, [words.sized(words.gone(taken, [])), words.sized(words.gone([], barred))])

    def test_sizes_and_kinds(self):
        for numbers, words in self.graphs():
            self.assertEqual(ask_on(numbers, sizes(), kinds()), [words.sizes(), words.kinds()])

    def test_best(self):
        for numbers, words in self.graphs(turns=800):
            self.assert_answers(numbers, best(), words.best())

    def test_cut(self):
        for numbers, words in self.graphs(turns=800, most_objects=6, most_roots=4):
            told = ask_on(numbers, *[cut(x) for x in range(words.count)])
            self.assertEqual(told, [[0] + words.told_cut(x) if x in words.live else [-4] for x in range(words.count)])

    def test_ways(self):
        for numbers, words in self.graphs(turns=800, most_objects=6, most_roots=4):
            for x in range(words.count):
                expected = ways_told(words.told_ways(x, words.holds_left(x))) if x in words.live else [-4]
                self.assert_answers(numbers, ways(x), expected)

    def test_as_many_ways_as_a_fewest_cut_has_holds(self):
        for numbers, words in self.graphs(turns=100, most_objects=5, most_roots=4):
            for x in words.live:
                told = ask_on(numbers, ways(x), cut(x))
                self.assertEqual(told[0][1], len(told[1]) - 1)

    def test_release(self):
        for numbers, words in self.graphs():
            gone = some_of(self.draw, len(words.holds))
            freed = words.gone([], gone)
            told = ask_on(numbers, release(gone), row(), live(), undo(), row())
            expected = [[0, len(freed), words.size(freed)], [0] + words.released(gone), [0] + words.left([], gone)]
            self.assertEqual(told, expected + [[0], [0] + numbers])
