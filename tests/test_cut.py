"""Point 11: cut, and which of the fewest cuts is told."""

from tests.helper import EXAMPLE, FAR, GREATEST, AskCase, ask, ask_on, cut, graph_row, row, strong_row


class CutTest(AskCase):
    def assert_cut(self, numbers, x, expected):
        self.assert_answers(numbers, cut(x), [0] + expected)

    def test_example(self):
        self.assert_cut(EXAMPLE, 3, [0, 1])
        self.assert_cut(EXAMPLE, 0, [0])
        self.assert_cut(EXAMPLE, 1, [0, 1])
        self.assert_cut(EXAMPLE, 2, [0, 1])

    def test_of_a_chain_the_root(self):
        chain = strong_row([[number + 1] for number in range(47)] + [[]], [0])
        for x in (0, 1, 46, 47):
            self.assert_cut(chain, x, [0])

    def test_where_the_fewest_are_live_not_at_the_object(self):
        # Two roots to 0, then one field behind another.
        numbers = strong_row([[1], [2], []], [0, 0])
        self.assert_cut(numbers, 1, [2])
        self.assert_cut(numbers, 2, [2])

    def test_where_the_fewest_are_live_not_with_the_least_numbers(self):
        # The roots lead to 2, which leads to 1, which leads to 0: the hold 3 is that of 2.
        self.assert_cut(strong_row([[], [0], [1]], [2, 2]), 0, [3])

    def test_fewer_holds_come_before_fewer_live(self):
        # Two holds could be cut at the roots; one at the end suffices.
        self.assert_cut(strong_row([[2], [2], [3], []], [0, 1]), 3, [4])

    def test_parts_from_several_places(self):
        # To 5 lead a chain from the first root, and two fields of 4; to 4 leads a chain from 3, to which three roots
        # lead. One hold is cut at the root, one in the middle.
        numbers = strong_row([[1], [5], [4], [2], [5, 5], []], [0, 3, 3, 3])
        self.assert_cut(numbers, 5, [0, 7])

    def test_a_root_leads_to_it(self):
        self.assert_cut(strong_row([[1], []], [0, 1]), 1, [0, 1])
        self.assert_cut(strong_row([[1], []], [0, 0, 1, 1]), 1, [2, 3, 4])

    def test_two_roots_to_one_object(self):
        self.assert_cut(strong_row([[]], [0, 0]), 0, [0, 1])

    def test_several_fields_to_one_object(self):
        numbers = strong_row([[1, 1, 1], [2, 2], []], [0, 0, 0, 0])
        self.assert_cut(numbers, 1, [4, 5, 6])
        self.assert_cut(numbers, 2, [7, 8])

    def test_fields_to_their_own_object_and_rings_do_not_count(self):
        self.assert_cut(strong_row([[0, 1], [1, 0]], [0]), 0, [0])
        self.assert_cut(strong_row([[0, 1], [1, 0, 1]], [0, 0]), 1, [3])

    def test_a_ring_through_the_object(self):
        # 1 leads to 2 and 3, and both lead back to it.
        self.assert_cut(strong_row([[1], [2, 3], [1], [1]], [0, 0]), 1, [2])

    def test_weak_fields_do_not_count(self):
        numbers = graph_row([(0, 0, [(0, 1, 1), (0, 0, 1)]), (0, 0, [])], [0, 0])
        self.assert_cut(numbers, 1, [2])

    def test_holds_of_lost_objects_do_not_count(self):
        self.assert_cut(strong_row([[], [0], [1, 0]], [0]), 0, [0])

    def test_sizes_do_not_count(self):
        # As the one with two roots, with the greatest size where it would be spared.
        numbers = graph_row([(0, 0, [(0, 0, 1)]), (0, 1000000, [(0, 0, 2)]), (0, 0, [])], [0, 0])
        self.assert_cut(numbers, 2, [2])

    def test_ways_that_must_give_way(self):
        # The first short way to 5, by 0 and 3, bars both others: only going around it are there two.
        numbers = strong_row([[3, 2], [3], [5], [5], [], []], [0, 1])
        self.assert_cut(numbers, 5, [0, 1])

    def test_the_greatest_graph(self):
        self.assert_cut(GREATEST, 0, list(range(16)))
        for x in range(1, 14):
            self.assert_cut(GREATEST, x, list(range(16, 28)))
        self.assert_cut(GREATEST, 14, [172, 173, 174, 175])
        self.assert_answers(GREATEST, cut(15), [-4])

    def test_lost(self):
        self.assert_answers(EXAMPLE, cut(4), [-4])
        self.assert_answers(strong_row([[0]], []), cut(0), [-4])

    def test_no_object(self):
        for number in (5, -1, FAR, -FAR):
            self.assert_answers(EXAMPLE, cut(number), [-3])
        self.assertEqual(ask(cut(0)), [[-3]])

    def test_the_graph_stays(self):
        told = ask_on(EXAMPLE, cut(3), cut(4), cut(5), row(), cut(3))
        self.assertEqual(told, [[0, 0, 1], [-4], [-3], [0] + EXAMPLE, [0, 0, 1]])
