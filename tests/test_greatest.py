"""Drawn graphs with the greatest counts: 48 objects, 16 roots, 12 fields of one object, 160 fields in all."""

import random

from tests.helper import (
    AskCase, ask_on, best, cut, frees, graph_row, kept, kinds, live, release, row, sizes, undo, ways,
)
from tests.test_by_words import ByWords, drawn_graph, ways_told

OBJECTS = 48
FIELDS = 160
ROOTS = 16


def field_counts(draw, most_each):
    """How many fields each object has; one of them has 12."""
    counts = [0] * OBJECTS
    counts[draw.randrange(OBJECTS)] = 12
    while sum(counts) < FIELDS:
        number = draw.randrange(OBJECTS)
        if counts[number] < most_each:
            counts[number] += 1
    return counts


def greatest_graph(draw, most_each, reach, weak_share):
    """A graph whose fields lead not further than so from their object, so that ways are long if that's near."""
    order = list(range(OBJECTS))
    draw.shuffle(order)
    objects = [None] * OBJECTS
    for place, count in enumerate(field_counts(draw, most_each)):
        fields = []
        for turn in range(count):
            lead = order[min(max(place + draw.randint(-reach // 2, reach), 0), OBJECTS - 1)]
            fields.append((draw.randint(0, 199), 1 if draw.random() < weak_share else 0, lead))
        objects[order[place]] = (draw.randint(0, 9), draw.choice([0, 1, 7, 1000000]), fields)
    return objects, [order[draw.randrange(min(reach + 2, OBJECTS))] for place in range(ROOTS)]


def drawn_graphs():
    draw = random.Random(48)
    for most_each, reach, weak_share in ((12, 3, 0), (4, 6, 0), (12, 47, 0), (5, 2, 0.1), (12, 12, 0.3), (4, 2, 0)):
        objects, roots = greatest_graph(draw, most_each, reach, weak_share)
        yield draw, graph_row(objects, roots), ByWords(objects, roots)


def path_to(words, goals, left, used):
    """One more way to a goal, which may undo what is used, as (hold, whether it is undone); or None."""
    seen = {None: []}
    waiting = [None]
    for at in waiting:
        if at in goals:
            return seen[at]
        for k in left:
            holder, lead = words.holds[k]
            for start, end, undone in ((holder, lead, False), (lead, holder, True)):
                if start == at and end not in seen and (k in used) == undone:
                    seen[end] = seen[at] + [(k, undone)]
                    waiting.append(end)
    return None


def most_ways(words, goals, left):
    """How many parted ways by these holds end in one of the goals, found anew each time."""
    used = set()
    most = 0
    while True:
        path = path_to(words, goals, left, used)
        if path is None:
            return most
        most += 1
        for k, undone in path:
            used ^= {k}


def holds_left(words, x):
    left = list(range(len(words.holds)))
    most = most_ways(words, [x], left)
    for k in range(len(words.holds)):
        without_k = [other for other in left if other != k]
        if most_ways(words, [x], without_k) == most:
            left = without_k
    return left


class GreatestTest(AskCase):
    def test_most_ways_is_what_the_words_say(self):
        draw = random.Random(7)
        for turn in range(200):
            objects, roots = drawn_graph(draw, 5, 4)
            words = ByWords(objects, roots)
            left = [k for k in range(len(words.holds)) if draw.random() < 0.8]
            for x in range(words.count):
                self.assertEqual(most_ways(words, [x], left), words.most_parted(x, frozenset(left)))

    def test_the_counts(self):
        for draw, numbers, words in drawn_graphs():
            fields = [each[2] for each in words.objects]
            counts = [len(fields), len(words.roots), max(map(len, fields)), sum(map(len, fields))]
            self.assertEqual(counts, [48, 16, 12, 160])

    def test_kept_frees_and_release(self):
        for draw, numbers, words in drawn_graphs():
            taken = [draw.randrange(OBJECTS) for turn in range(draw.randint(1, 9))]
            gone = [draw.randrange(len(words.holds)) for turn in range(draw.randint(1, 150))]
            freed = words.gone([], gone)
            told = ask_on(numbers, kept(taken), frees(gone), release(gone), row(), live(), undo(), row())
            self.assertEqual(told[:2], [words.sized(words.gone(taken, [])), words.sized(freed)])
            self.assertEqual(told[2:4], [[0, len(freed), words.size(freed)], [0] + words.released(gone)])
            self.assertEqual(told[4:], [[0] + words.left([], gone), [0], [0] + numbers])

    def test_sizes_kinds_and_best(self):
        for draw, numbers, words in drawn_graphs():
            self.assertEqual(ask_on(numbers, sizes(), kinds(), best()), [words.sizes(), words.kinds(), words.best()])

    def test_cut(self):
        for draw, numbers, words in drawn_graphs():
            every = list(range(len(words.holds)))
            for x in words.live[::7]:
                told = ask_on(numbers, cut(x))[0][1:]
                self.assertEqual(told, sorted(set(told)))
                self.assertIn(x, words.gone([], told))
                self.assertEqual(len(told), most_ways(words, [x], every))
                # If another fewest cut freed what this one spares, there would be no more ways to the two than to x.
                for spared in words.left([], told):
                    self.assertGreater(most_ways(words, [x, spared], every), len(told))

    def test_ways(self):
        for draw, numbers, words in drawn_graphs():
            for x in draw.sample(words.live, 3):
                self.assert_answers(numbers, ways(x), ways_told(words.told_ways(x, holds_left(words, x))))

    def test_60_calls(self):
        for draw, numbers, words in drawn_graphs():
            calls = []
            for x in range(48):
                calls.append(draw.choice([cut, ways])(x))
            calls += [best(), sizes(), kinds(), kept([0]), frees([0]), release([]), best(), sizes(), kinds(), undo()]
            told = ask_on(numbers, *calls)
            self.assertEqual([each[0] == -4 for each in told[:48]], [x not in words.live for x in range(48)])
            self.assertEqual(told[48:51], told[54:57])
