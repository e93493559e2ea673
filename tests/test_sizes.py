"""Point 8, and 7 as far as it speaks of sizes and kinds: kept, sizes, kinds."""

from tests.helper import (
    EXAMPLE, FAR, GREATEST, AskCase, ask, ask_on, graph_row, kept, kinds, row, sized_row, sizes, strong_row,
)

# 3 keeps all; 0 and 4, which 1 leads to, keep 2 together. 5 is lost and leads to 0.
KNOT = sized_row([1, 2, 4, 8, 16, 32], [[2], [0, 4], [], [1, 3], [2], [0]], [3])
WEAK = graph_row([(0, 1, [(0, 1, 1), (0, 0, 2)]), (0, 2, []), (0, 4, [])], [0])


class KeptTest(AskCase):
    def test_example(self):
        self.assert_answers(EXAMPLE, kept([0, 2]), [0, 71, 0, 1, 2, 3])

    def test_one_object(self):
        self.assert_answers(EXAMPLE, kept([3]), [0, 40, 3])
        self.assert_answers(KNOT, kept([1]), [0, 23, 0, 1, 2, 4])
        self.assert_answers(KNOT, kept([3]), [0, 31, 0, 1, 2, 3, 4])

    def test_more_together_than_alone(self):
        self.assert_answers(KNOT, kept([0]), [0, 1, 0])
        self.assert_answers(KNOT, kept([4]), [0, 16, 4])
        self.assert_answers(KNOT, kept([0, 4]), [0, 21, 0, 2, 4])

    def test_no_objects(self):
        self.assert_answers(EXAMPLE, kept([]), [0, 0])

    def test_any_order_and_some_twice(self):
        self.assert_answers(KNOT, kept([4, 0, 4, 4, 0]), [0, 21, 0, 2, 4])
        self.assert_answers(EXAMPLE, kept([2, 0] * 500), [0, 71, 0, 1, 2, 3])

    def test_lost_objects_keep_nothing(self):
        self.assert_answers(EXAMPLE, kept([4]), [0, 0])
        self.assert_answers(KNOT, kept([5, 2]), [0, 4, 2])

    def test_lost_objects_are_not_kept(self):
        self.assert_answers(WEAK, kept([0]), [0, 5, 0, 2])

    def test_objects_of_size_0(self):
        self.assert_answers(sized_row([0, 0], [[1], []], [0]), kept([0]), [0, 0, 0, 1])

    def test_two_roots_to_one_object(self):
        self.assert_answers(sized_row([1, 2], [[1], []], [0, 0]), kept([0]), [0, 3, 0, 1])

    def test_fields_to_their_own_object_and_several_to_one(self):
        self.assert_answers(sized_row([1, 2], [[0, 1, 1, 1], [1]], [0]), kept([0]), [0, 3, 0, 1])

    def test_the_greatest_graph(self):
        self.assert_answers(GREATEST, kept([0]), [0, 15000000] + list(range(15)))
        self.assert_answers(GREATEST, kept(list(range(47, 6, -1))), [0, 8000000] + list(range(7, 15)))

    def test_no_object(self):
        for number in (5, -1, FAR, -FAR):
            self.assert_answers(EXAMPLE, kept([number]), [-3])
            self.assert_answers(EXAMPLE, kept([0, 2, number, 3]), [-3])
        self.assert_answers(EXAMPLE, kept([-1] * 1000), [-3])

    def test_a_new_object(self):
        self.assertEqual(ask(kept([]), kept([0])), [[0, 0], [-3]])

    def test_the_graph_stays(self):
        told = ask_on(EXAMPLE, kept([0, 2]), kept([5]), row(), kept([0, 2]))
        self.assertEqual(told, [[0, 71, 0, 1, 2, 3], [-3], [0] + EXAMPLE, [0, 71, 0, 1, 2, 3]])


class SizesTest(AskCase):
    def test_example(self):
        self.assert_answers(EXAMPLE, sizes(), [0, 3, 40, 2, 20, 1, 10, 0, 1])

    def test_the_greatest_first(self):
        self.assert_answers(KNOT, sizes(), [0, 3, 31, 1, 23, 4, 16, 2, 4, 0, 1])

    def test_of_the_same_the_lesser_number_first(self):
        self.assert_answers(sized_row([5, 7, 5, 7], [[], [], [], []], [3, 2, 1, 0]), sizes(), [0, 1, 7, 3, 7, 0, 5, 2, 5])

    def test_the_same_by_keeping(self):
        # 2 has size 0 and keeps 0: all three kept sizes are the same.
        numbers = sized_row([6, 6, 0], [[], [], [0]], [2, 1])
        self.assert_answers(numbers, sizes(), [0, 0, 6, 1, 6, 2, 6])

    def test_objects_of_size_0(self):
        self.assert_answers(sized_row([0, 3, 0], [[], [], []], [2, 1, 0]), sizes(), [0, 1, 3, 0, 0, 2, 0])

    def test_weak_fields_keep_nothing(self):
        self.assert_answers(WEAK, sizes(), [0, 0, 5, 2, 4])

    def test_two_roots_a_field_to_its_own_object_and_several_to_one(self):
        self.assert_answers(sized_row([1, 2], [[0, 1, 1, 1], [1]], [0, 0]), sizes(), [0, 0, 3, 1, 2])

    def test_nothing_live(self):
        self.assert_answers(strong_row([[0], [0]], []), sizes(), [0])
        self.assert_answers([0, 0], sizes(), [0])
        self.assertEqual(ask(sizes()), [[0]])

    def test_the_greatest_graph(self):
        expected = [0]
        for number in range(15):
            expected += [number, (15 - number) * 1000000]
        self.assert_answers(GREATEST, sizes(), expected)

    def test_the_greatest_size(self):
        numbers = sized_row([1000000] * 48, [[number + 1] for number in range(47)] + [[]], [0])
        self.assertEqual(ask_on(numbers, sizes())[0][:3], [0, 0, 48000000])

    def test_the_graph_stays(self):
        told = ask_on(KNOT, sizes(), row(), sizes())
        self.assertEqual(told[1], [0] + KNOT)
        self.assertEqual(told[0], told[2])


class KindsTest(AskCase):
    def test_example(self):
        self.assert_answers(EXAMPLE, kinds(), [0, 0, 4, 71, 71])

    def test_rising(self):
        numbers = graph_row([(9, 1, []), (0, 2, []), (99, 4, []), (10, 8, []), (0, 16, [])], [4, 3, 2, 1, 0])
        self.assert_answers(numbers, kinds(), [0, 0, 2, 18, 18, 9, 1, 1, 1, 10, 1, 8, 8, 99, 1, 4, 4])

    def test_what_a_kind_keeps_together(self):
        # Those of kind 5 keep 3 together, though neither does alone.
        objects = [(5, 1, [(0, 0, 3)]), (5, 2, [(0, 0, 3)]), (7, 4, []), (8, 8, [])]
        self.assert_answers(graph_row(objects, [0, 1, 2]), kinds(), [0, 5, 2, 3, 11, 7, 1, 4, 4, 8, 1, 8, 8])

    def test_what_two_of_a_kind_keep_counts_once(self):
        objects = [(1, 1, [(0, 0, 1)]), (1, 2, [(0, 0, 2)]), (2, 4, [])]
        self.assert_answers(graph_row(objects, [0]), kinds(), [0, 1, 2, 3, 7, 2, 1, 4, 4])

    def test_lost_objects_do_not_count(self):
        objects = [(1, 1, []), (1, 2, [(0, 0, 0)]), (3, 4, []), (2, 8, [(0, 1, 2)])]
        self.assert_answers(graph_row(objects, [0, 3]), kinds(), [0, 1, 1, 1, 1, 2, 1, 8, 8])

    def test_objects_of_size_0(self):
        objects = [(4, 0, [(0, 0, 1)]), (6, 0, [])]
        self.assert_answers(graph_row(objects, [0]), kinds(), [0, 4, 1, 0, 0, 6, 1, 0, 0])

    def test_two_roots_a_field_to_its_own_object_and_several_to_one(self):
        objects = [(1, 1, [(0, 0, 0), (0, 0, 1), (0, 0, 1)]), (2, 2, [(0, 0, 1)])]
        self.assert_answers(graph_row(objects, [0, 0]), kinds(), [0, 1, 1, 1, 3, 2, 1, 2, 2])

    def test_nothing_live(self):
        self.assert_answers(strong_row([[0], [0]], []), kinds(), [0])
        self.assert_answers([0, 0], kinds(), [0])
        self.assertEqual(ask(kinds()), [[0]])

    def test_the_greatest_graph(self):
        expected = [0, 97, 1, 1000000, 1000000, 98, 1, 1000000, 2000000, 99, 13, 13000000, 15000000]
        self.assert_answers(GREATEST, kinds(), expected)

    def test_16_kinds(self):
        numbers = graph_row([(60 - number, number, []) for number in range(16)], list(range(16)))
        expected = [0]
        for number in reversed(range(16)):
            expected += [60 - number, 1, number, number]
        self.assert_answers(numbers, kinds(), expected)

    def test_the_graph_stays(self):
        told = ask_on(EXAMPLE, kinds(), row(), kinds())
        self.assertEqual(told, [[0, 0, 4, 71, 71], [0] + EXAMPLE, [0, 0, 4, 71, 71]])
