"""Point 12: ways, which holds are let go, and how the told ways are put together."""

from tests.helper import EXAMPLE, FAR, GREATEST, AskCase, ask, ask_on, graph_row, row, strong_row, ways


class WaysTest(AskCase):
    def assert_ways(self, numbers, x, expected):
        told = [0, len(expected)]
        for way in expected:
            told += [len(way)] + way
        self.assert_answers(numbers, ways(x), told)

    def test_example(self):
        self.assert_answers(EXAMPLE, ways(3), [0, 2, 3, 0, 2, 4, 2, 1, 5])
        self.assert_ways(EXAMPLE, 0, [[0]])
        self.assert_ways(EXAMPLE, 1, [[0, 2], [1, 5, 6]])
        self.assert_ways(EXAMPLE, 2, [[0, 3], [1]])

    def test_the_lesser_holds_are_let_go_first(self):
        # One of two roots is needed, and the shorter way has the lesser number.
        self.assert_ways(strong_row([[1], []], [0, 0]), 1, [[1, 2]])
        self.assert_ways(strong_row([[2, 1], [2], []], [0]), 2, [[0, 2, 3]])

    def test_a_hold_is_let_go_though_others_hang_on_it(self):
        # Without the hold 0 the fields of 0 and 1 are of no use; that of 2 is, for the root that leads to 2.
        self.assert_ways(strong_row([[1], [2], [3], []], [0, 3, 2]), 3, [[1], [2, 5]])
        self.assert_ways(strong_row([[1], [2], []], [0, 1]), 2, [[1, 3]])

    def test_a_hold_stays_that_others_let_go_made_needed(self):
        # Behind the root two fields lead to 1 and two on to 2: the first of each is let go.
        self.assert_ways(strong_row([[1, 1], [2, 2], []], [0]), 2, [[0, 2, 4]])

    def test_a_root_leads_to_it(self):
        self.assert_ways(strong_row([[1], []], [1, 0]), 1, [[0], [1, 2]])
        self.assert_ways(strong_row([[]], [0, 0, 0]), 0, [[0], [1], [2]])

    def test_a_way_ends_where_it_first_comes_to_the_object(self):
        self.assert_ways(strong_row([[0, 1], [0]], [0]), 0, [[0]])
        self.assert_ways(strong_row([[1], [2, 3, 1], [1], [1]], [0]), 1, [[0, 1]])

    def test_several_fields_to_one_object(self):
        self.assert_ways(strong_row([[1, 1, 1], []], [0, 0]), 1, [[0, 3], [1, 4]])

    def test_fields_to_their_own_object_and_rings_are_let_go(self):
        # The ring 0, 1 and the fields of each to itself make no way more.
        numbers = strong_row([[0, 1], [1, 0, 2], []], [0])
        self.assert_ways(numbers, 2, [[0, 2, 5]])

    def test_ways_that_meet_and_part_again(self):
        leads = [[2], [2], [3, 4], [5], [5], []]
        self.assert_ways(strong_row(leads, [0, 1]), 5, [[0, 2, 4, 6], [1, 3, 5, 7]])
        self.assert_ways(strong_row(leads, [1, 0]), 5, [[0, 3, 4, 6], [1, 2, 5, 7]])

    def test_ways_that_meet_twice(self):
        # All meet in 1 and in 4; the first way takes the first field that is left each time.
        leads = [[1, 1], [2, 3], [4], [4], [5, 6], [7], [7], []]
        self.assert_ways(strong_row(leads, [0, 0]), 7, [[0, 2, 4, 6, 8, 10], [1, 3, 5, 7, 9, 11]])

    def test_the_field_first_left_need_not_be_that_of_the_first_to_come(self):
        # 1 leads to 2 first, which is the longer way: the way from the root 0 takes it all the same.
        leads = [[1], [2, 4], [3], [4], []]
        self.assert_ways(strong_row(leads, [0, 1]), 4, [[0, 2, 3, 5, 6], [1, 4]])

    def test_ways_that_must_give_way(self):
        # The short way by 0 and 3 bars both others, so that its field has to be left.
        self.assert_ways(strong_row([[3, 2], [3], [5], [5], [], []], [0, 1]), 5, [[0, 3, 5], [1, 4, 6]])

    def test_in_the_order_in_which_they_begin(self):
        numbers = strong_row([[3], [3], [3], []], [2, 0, 1])
        self.assert_ways(numbers, 3, [[0, 5], [1, 3], [2, 4]])

    def test_weak_fields_make_no_way(self):
        numbers = graph_row([(0, 0, [(0, 1, 1), (0, 0, 1), (0, 1, 1)]), (0, 0, [])], [0, 0])
        self.assert_ways(numbers, 1, [[1, 2]])

    def test_holds_of_lost_objects_make_no_way(self):
        self.assert_ways(strong_row([[], [0], [1, 0]], [0]), 0, [[0]])

    def test_the_longest_way(self):
        chain = strong_row([[number + 1] for number in range(47)] + [[]], [0])
        self.assert_ways(chain, 47, [list(range(48))])

    def test_the_greatest_graph(self):
        self.assert_ways(GREATEST, 0, [[number] for number in range(16)])
        # Of 16 roots the last 12 are left, and all the fields up to 13.
        all_ways = [[4 + k] + [16 + 12 * number + k for number in range(13)] for k in range(12)]
        self.assert_ways(GREATEST, 13, all_ways)
        # Of each object the last 4 fields are left.
        last_ways = [[12 + k] + [24 + 12 * number + k for number in range(13)] + [172 + k] for k in range(4)]
        self.assert_ways(GREATEST, 14, last_ways)
        self.assert_answers(GREATEST, ways(47), [-4])

    def test_60_calls_on_the_greatest_graph(self):
        told = ask_on(GREATEST, *[ways(13)] * 59)
        self.assertEqual(told, [told[0]] * 59)
        self.assertEqual(told[0][:2], [0, 12])

    def test_lost(self):
        self.assert_answers(EXAMPLE, ways(4), [-4])
        self.assert_answers(strong_row([[0]], []), ways(0), [-4])

    def test_no_object(self):
        for number in (5, -1, FAR, -FAR):
            self.assert_answers(EXAMPLE, ways(number), [-3])
        self.assertEqual(ask(ways(0)), [[-3]])

    def test_the_graph_stays(self):
        told = ask_on(EXAMPLE, ways(3), ways(4), ways(5), row(), ways(3))
        self.assertEqual(told, [[0, 2, 3, 0, 2, 4, 2, 1, 5], [-4], [-3], [0] + EXAMPLE, [0, 2, 3, 0, 2, 4, 2, 1, 5]])
