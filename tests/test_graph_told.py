"""Point 2: row, holds, live."""

from tests.helper import EXAMPLE, AskCase, ask, graph_row, holds, live, row, strong_row


class NewObjectTest(AskCase):
    def test_a_graph_without_objects_and_roots(self):
        self.assertEqual(ask(row(), holds(), live()), [[0, 0, 0], [0], [0]])


class RowTest(AskCase):
    def test_example(self):
        self.assert_answers(EXAMPLE, row(), [0] + EXAMPLE)

    def test_kinds_sizes_labels_and_weak_fields_stay(self):
        numbers = [2, 7, 11, 2, 5, 1, 0, 6, 0, 1, 99, 1000000, 1, 199, 1, 0, 3, 1, 0, 1]
        self.assert_answers(numbers, row(), [0] + numbers)


class HoldsTest(AskCase):
    def test_example(self):
        expected = [0, 0, 0, 0, 0, 1, 2, 1, 0, 1, 1, 1, 2, 2, 0, 3, 3, 0, 3, 4, 0, 1]
        self.assert_answers(EXAMPLE, holds(), expected)

    def test_weak_fields_have_a_place_but_no_number(self):
        fields = [(0, 1, 0), (0, 0, 1), (0, 1, 1), (0, 0, 0)]
        numbers = graph_row([(0, 0, fields), (0, 0, [])], [])
        self.assert_answers(numbers, holds(), [0, 1, 1, 1, 1, 3, 0])

    def test_roots_in_their_order_two_to_one_object(self):
        self.assert_answers(strong_row([[], []], [1, 0, 1]), holds(), [0, 0, 0, 1, 0, 1, 0, 0, 2, 1])

    def test_lost_objects_hold_too(self):
        self.assert_answers(strong_row([[], [0]], []), holds(), [0, 2, 0, 0])

    def test_most_holds(self):
        numbers = strong_row([[0] * 12] * 13 + [[0] * 4], [0] * 16)
        expected = [0]
        for place in range(16):
            expected += [0, place, 0]
        for number in range(14):
            for place in range(12 if number < 13 else 4):
                expected += [number + 1, place, 0]
        self.assert_answers(numbers, holds(), expected)


class LiveTest(AskCase):
    def test_example(self):
        self.assert_answers(EXAMPLE, live(), [0, 0, 1, 2, 3])

    def test_no_roots(self):
        self.assert_answers(strong_row([[0, 1], [0]], []), live(), [0])

    def test_weak_fields_hold_nothing(self):
        numbers = graph_row([(0, 0, [(0, 1, 1)]), (0, 0, [])], [0])
        self.assert_answers(numbers, live(), [0, 0])

    def test_a_field_to_its_own_object(self):
        self.assert_answers(strong_row([[0], [1]], [1]), live(), [0, 1])

    def test_rising_whatever_the_order_of_ways(self):
        self.assert_answers(strong_row([[], [0], [1], [2]], [3]), live(), [0, 0, 1, 2, 3])
        self.assert_answers(strong_row([[], [], []], [2, 0, 2]), live(), [0, 0, 2])

    def test_a_ring_without_a_root_is_lost(self):
        self.assert_answers(strong_row([[1], [2], [0], []], [3]), live(), [0, 3])

    def test_the_longest_chain(self):
        leads = [[number + 1] for number in range(47)] + [[]]
        self.assert_answers(strong_row(leads, [0]), live(), [0] + list(range(48)))
