"""Point 3: without."""

from tests.helper import EXAMPLE, FAR, AskCase, ask, ask_on, row, strong_row, without


class WithoutTest(AskCase):
    def assert_left(self, numbers, objects, cut, expected):
        self.assert_answers(numbers, without(objects, cut), [0] + expected)

    def test_example(self):
        self.assert_left(EXAMPLE, [2], [], [0, 1, 3])
        self.assert_left(EXAMPLE, [], [0], [1, 2, 3])

    def test_nothing_taken_out_or_cut(self):
        self.assert_left(EXAMPLE, [], [], [0, 1, 2, 3])

    def test_objects_and_holds_together(self):
        self.assert_left(EXAMPLE, [1], [5], [0, 2])
        self.assert_left(EXAMPLE, [0], [1], [])

    def test_what_is_taken_out_is_not_live(self):
        self.assert_left(strong_row([[0]], [0, 0]), [0], [], [])

    def test_one_of_two_roots_to_an_object_cut(self):
        numbers = strong_row([[]], [0, 0])
        self.assert_left(numbers, [], [0], [0])
        self.assert_left(numbers, [], [0, 1], [])

    def test_one_of_two_fields_to_an_object_cut(self):
        numbers = strong_row([[1, 1], []], [0])
        self.assert_left(numbers, [], [1], [0, 1])
        self.assert_left(numbers, [], [1, 2], [0])

    def test_lost_objects_and_their_holds(self):
        numbers = strong_row([[], [0]], [0])
        self.assert_left(numbers, [1], [1], [0])

    def test_any_order_and_some_twice(self):
        self.assert_left(EXAMPLE, [3, 1, 3, 1], [], [0, 2])
        self.assert_left(EXAMPLE, [], [5, 0, 5, 0, 0], [2])
        self.assert_left(EXAMPLE, [4] * 1000, [6] * 1000, [0, 1, 2, 3])

    def test_the_graph_stays(self):
        told = ask_on(EXAMPLE, without([0, 2], [0, 5]), row())
        self.assertEqual(told, [[0], [0] + EXAMPLE])

    def test_a_new_object(self):
        self.assertEqual(ask(without([], []), without([0], []), without([], [0])), [[0], [-3], [-10]])

    def test_no_object(self):
        for number in (5, -1, FAR, -FAR):
            self.assert_answers(EXAMPLE, without([number], []), [-3])
            self.assert_answers(EXAMPLE, without([0, 1, number, 2], [3]), [-3])

    def test_no_hold(self):
        for number in (7, -1, FAR, -FAR):
            self.assert_answers(EXAMPLE, without([], [number]), [-10])
            self.assert_answers(EXAMPLE, without([1], [6, 0, number]), [-10])

    def test_of_two_refusals_the_first(self):
        self.assert_answers(EXAMPLE, without([5], [7]), [-3])
        self.assert_answers(EXAMPLE, without([0, -1], [-1, 0]), [-3])

    def test_greatest_numbers(self):
        self.assert_left(EXAMPLE, [4], [6], [0, 1, 2, 3])

    def test_a_refusal_leaves_the_graph(self):
        told = ask_on(EXAMPLE, without([5], []), without([], [7]), row())
        self.assertEqual(told, [[-3], [-10], [0] + EXAMPLE])
