"""Point 4: around, and the order of ways."""

from tests.helper import EXAMPLE, FAR, AskCase, around, ask, ask_on, graph_row, row, strong_row


class AroundTest(AskCase):
    def assert_way(self, numbers, x, objects, cut, expected):
        self.assert_answers(numbers, around(x, objects, cut), expected)

    def test_example(self):
        self.assert_way(EXAMPLE, 3, [1], [], [0, 1, 5])

    def test_a_root_alone(self):
        self.assert_way(EXAMPLE, 0, [], [], [0, 0])
        self.assert_way(EXAMPLE, 2, [], [], [0, 1])

    def test_the_second_root_to_an_object(self):
        numbers = strong_row([[]], [0, 0])
        self.assert_way(numbers, 0, [], [], [0, 0])
        self.assert_way(numbers, 0, [], [0], [0, 1])
        self.assert_way(numbers, 0, [], [1, 0], [1])

    def test_fewer_holds_come_first(self):
        # 3 is reached from 0 by 1 and 2, or straight from the last root's object.
        numbers = strong_row([[1], [2], [3], [], [3]], [0, 4])
        self.assert_way(numbers, 3, [], [], [0, 1, 5])
        self.assert_way(numbers, 3, [4], [], [0, 0, 2, 3, 4])

    def test_of_as_many_the_lesser_where_they_first_differ(self):
        # The ways to 4 are 0, 3 and 1, 2: the first has the lesser root, though the greater last hold.
        numbers = strong_row([[4], [4], [], [], []], [1, 0])
        self.assert_way(numbers, 4, [], [], [0, 0, 3])
        self.assert_way(numbers, 4, [], [0], [0, 1, 2])

    def test_of_as_many_where_they_differ_within(self):
        # 0 leads to 3, then to 1; each leads to 4.
        numbers = strong_row([[3, 1], [4], [], [4], []], [0])
        self.assert_way(numbers, 4, [], [], [0, 0, 1, 4])
        self.assert_way(numbers, 4, [3], [], [0, 0, 2, 3])

    def test_two_fields_to_one_object(self):
        numbers = strong_row([[1, 1], []], [0])
        self.assert_way(numbers, 1, [], [], [0, 0, 1])
        self.assert_way(numbers, 1, [], [1], [0, 0, 2])

    def test_no_way(self):
        self.assert_way(EXAMPLE, 4, [], [], [1])
        self.assert_way(EXAMPLE, 3, [3], [], [1])
        self.assert_way(EXAMPLE, 3, [2, 1], [], [1])
        self.assert_way(EXAMPLE, 3, [], [5, 4], [1])
        self.assert_way(EXAMPLE, 3, [2], [0], [1])

    def test_weak_fields_make_no_way(self):
        numbers = graph_row([(0, 0, [(0, 1, 1)]), (0, 0, [])], [0])
        self.assert_way(numbers, 1, [], [], [1])

    def test_a_field_to_its_own_object(self):
        self.assert_way(strong_row([[0, 1], []], [0]), 1, [], [], [0, 0, 2])

    def test_the_longest_way(self):
        leads = [[number + 1] for number in range(47)] + [[]]
        self.assert_way(strong_row(leads, [0]), 47, [], [], [0] + list(range(48)))

    def test_any_order_and_some_twice(self):
        self.assert_way(EXAMPLE, 3, [4, 1, 4, 1], [6, 3, 6], [0, 1, 5])

    def test_no_object(self):
        for number in (5, -1, FAR, -FAR):
            self.assert_way(EXAMPLE, number, [], [], [-3])
            self.assert_way(EXAMPLE, 3, [1, number], [], [-3])

    def test_no_hold(self):
        for number in (7, -1, FAR, -FAR):
            self.assert_way(EXAMPLE, 3, [1], [0, number], [-10])

    def test_of_two_refusals_the_first(self):
        self.assert_way(EXAMPLE, 5, [], [7], [-3])
        self.assert_way(EXAMPLE, 3, [5], [7], [-3])
        self.assert_way(EXAMPLE, 4, [], [7], [-10])

    def test_a_new_object(self):
        self.assertEqual(ask(around(0, [], [])), [[-3]])

    def test_the_graph_stays(self):
        told = ask_on(EXAMPLE, around(3, [1], [0]), around(5, [], []), around(0, [], [9]), row())
        self.assertEqual(told, [[0, 1, 5], [-3], [-10], [0] + EXAMPLE])
