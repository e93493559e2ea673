"""Point 1: load, and what a graph row is."""

from tests.helper import EXAMPLE, FAR, AskCase, ask, ask_on, graph_row, load, row, strong_row

REFUSED = [[-12]]


def one_object(kind=0, size=0, fields=()):
    return graph_row([(kind, size, list(fields))], [])


def row_with_fields(counts):
    objects = [(0, 0, [(0, 0, 0)] * count) for count in counts]
    return graph_row(objects, [])


class LoadTest(AskCase):
    def assert_loads(self, numbers, objects, holds):
        self.assertEqual(ask(load(numbers), row()), [[0, objects, holds], [0] + numbers])

    def assert_refused(self, numbers):
        self.assertEqual(ask(load(numbers)), REFUSED)

    def test_example(self):
        self.assert_loads(EXAMPLE, 5, 7)

    def test_no_objects_and_no_roots(self):
        self.assert_loads([0, 0], 0, 0)

    def test_objects_without_roots(self):
        self.assert_loads([2, 3, 4, 0, 5, 6, 1, 7, 0, 0, 0], 2, 1)

    def test_weak_fields_are_no_holds(self):
        self.assert_loads([1, 0, 0, 3, 1, 1, 0, 2, 0, 0, 3, 1, 0, 1, 0], 1, 2)

    def test_two_roots_to_one_object(self):
        self.assert_loads([1, 0, 0, 0, 2, 0, 0], 1, 2)

    def test_most_objects(self):
        self.assert_loads(strong_row([[]] * 48, [47]), 48, 1)
        self.assert_refused(strong_row([[]] * 49, [47]))

    def test_most_roots(self):
        self.assert_loads(strong_row([[]], [0] * 16), 1, 16)
        self.assert_refused(strong_row([[]], [0] * 17))

    def test_most_fields_of_one_object(self):
        self.assert_loads(row_with_fields([12]), 1, 12)
        self.assert_refused(row_with_fields([13]))

    def test_most_fields_in_all(self):
        self.assert_loads(row_with_fields([12] * 13 + [4]), 14, 160)
        self.assert_refused(row_with_fields([12] * 13 + [5]))
        self.assert_refused(row_with_fields([12] * 48))

    def test_weak_fields_count_among_all_fields(self):
        objects = [(0, 0, [(0, 1, 0)] * 12)] * 13
        self.assert_loads(graph_row(objects + [(0, 0, [(0, 1, 0)] * 4)], []), 14, 0)
        self.assert_refused(graph_row(objects + [(0, 0, [(0, 1, 0)] * 5)], []))

    def test_everything_at_its_greatest(self):
        objects = [(99, 1000000, [(199, 0, 47)] * 12)] * 13
        objects += [(99, 1000000, [(199, 0, 47)] * 4)]
        objects += [(99, 1000000, [])] * 34
        self.assert_loads(graph_row(objects, [47] * 16), 48, 176)

    def test_kinds(self):
        self.assert_loads(one_object(kind=99), 1, 0)
        self.assert_refused(one_object(kind=100))
        self.assert_refused(one_object(kind=-1))

    def test_sizes(self):
        self.assert_loads(one_object(size=1000000), 1, 0)
        self.assert_refused(one_object(size=1000001))
        self.assert_refused(one_object(size=-1))

    def test_labels(self):
        self.assert_loads(one_object(fields=[(199, 0, 0)]), 1, 1)
        self.assert_refused(one_object(fields=[(200, 0, 0)]))
        self.assert_refused(one_object(fields=[(-1, 0, 0)]))

    def test_weak_is_0_or_1(self):
        self.assert_loads(one_object(fields=[(0, 1, 0)]), 1, 0)
        self.assert_refused(one_object(fields=[(0, 2, 0)]))
        self.assert_refused(one_object(fields=[(0, -1, 0)]))

    def test_fields_lead_to_objects(self):
        self.assert_loads(strong_row([[1], []], []), 2, 1)
        self.assert_refused(strong_row([[2], []], []))
        self.assert_refused(strong_row([[-1], []], []))
        self.assert_refused(one_object(fields=[(0, 1, 1)]))

    def test_roots_lead_to_objects(self):
        self.assert_loads(strong_row([[], []], [1, 0]), 2, 2)
        self.assert_refused(strong_row([[], []], [2]))
        self.assert_refused(strong_row([[], []], [-1]))
        self.assert_refused([0, 1, 0])

    def test_counts_below_0(self):
        self.assert_refused([-1, 0])
        self.assert_refused([1, 0, 0, -1, 0])
        self.assert_refused([0, -1])

    def test_an_empty_list(self):
        self.assert_refused([])

    def test_each_shorter_row(self):
        for length in range(len(EXAMPLE)):
            self.assert_refused(EXAMPLE[:length])

    def test_something_behind(self):
        self.assert_refused(EXAMPLE + [0])
        self.assert_refused([0, 0, 0])
        self.assert_refused(EXAMPLE + [0] * (1000 - len(EXAMPLE)))

    def test_each_number_far_off(self):
        for place in range(len(EXAMPLE)):
            for number in (-1, -FAR, FAR):
                self.assert_refused(EXAMPLE[:place] + [number] + EXAMPLE[place + 1:])

    def test_a_refusal_leaves_the_graph(self):
        told = ask_on([1, 2, 3, 0, 1, 0], load([]), row(), load(EXAMPLE + [0]), row())
        self.assertEqual(told, [[-12], [0, 1, 2, 3, 0, 1, 0]] * 2)

    def test_the_later_row_is_held(self):
        told = ask(load(EXAMPLE), load([1, 2, 3, 0, 1, 0]), row())
        self.assertEqual(told[1:], [[0, 1, 1], [0, 1, 2, 3, 0, 1, 0]])
