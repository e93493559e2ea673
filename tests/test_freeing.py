"""Points 9 and 10: frees, best."""

from tests.helper import (
    EXAMPLE, FAR, GREATEST, AskCase, ask, ask_on, best, frees, graph_row, row, sized_row, strong_row,
)

# The hold 0 is the root to 0; 1 and 2 lead from 0 to 1 and 2; 3 and 4 from there to 3; 5 from 3 to itself.
DIAMOND = sized_row([1, 2, 4, 8], [[1, 2], [3], [3], [3]], [0])


class FreesTest(AskCase):
    def test_example(self):
        self.assert_answers(EXAMPLE, frees([0]), [0, 1, 0])
        self.assert_answers(EXAMPLE, frees([0, 5]), [0, 51, 0, 1, 3])

    def test_one_hold_frees_what_its_object_keeps(self):
        self.assert_answers(DIAMOND, frees([0]), [0, 15, 0, 1, 2, 3])
        self.assert_answers(DIAMOND, frees([1]), [0, 2, 1])

    def test_more_together_than_alone(self):
        self.assert_answers(DIAMOND, frees([3]), [0, 0])
        self.assert_answers(DIAMOND, frees([4]), [0, 0])
        self.assert_answers(DIAMOND, frees([3, 4]), [0, 8, 3])

    def test_no_holds(self):
        self.assert_answers(EXAMPLE, frees([]), [0, 0])

    def test_any_order_and_some_twice(self):
        self.assert_answers(EXAMPLE, frees([5, 0, 5, 0, 0]), [0, 51, 0, 1, 3])
        self.assert_answers(DIAMOND, frees([4, 3] * 500), [0, 8, 3])

    def test_two_roots_to_one_object(self):
        numbers = sized_row([7], [[]], [0, 0])
        self.assert_answers(numbers, frees([0]), [0, 0])
        self.assert_answers(numbers, frees([1, 0]), [0, 7, 0])

    def test_several_fields_to_one_object(self):
        numbers = sized_row([1, 2], [[1, 1, 1], []], [0])
        self.assert_answers(numbers, frees([1, 3]), [0, 0])
        self.assert_answers(numbers, frees([1, 2, 3]), [0, 2, 1])

    def test_a_field_to_its_own_object_frees_nothing_and_saves_nothing(self):
        self.assert_answers(DIAMOND, frees([5]), [0, 0])
        self.assert_answers(sized_row([3], [[0]], [0]), frees([0]), [0, 3, 0])

    def test_holds_of_lost_objects(self):
        self.assert_answers(sized_row([1, 2], [[], [0, 1]], [0]), frees([1, 2]), [0, 0])
        self.assert_answers(sized_row([1, 2], [[], [0, 1]], [0]), frees([0]), [0, 1, 0])

    def test_weak_fields_save_nothing(self):
        numbers = graph_row([(0, 1, [(0, 1, 1), (0, 0, 1)]), (0, 2, [])], [0])
        self.assert_answers(numbers, frees([1]), [0, 2, 1])

    def test_objects_of_size_0(self):
        self.assert_answers(sized_row([0, 0], [[1], []], [0]), frees([1]), [0, 0, 1])

    def test_the_greatest_graph(self):
        self.assert_answers(GREATEST, frees(list(range(176))), [0, 15000000] + list(range(15)))
        self.assert_answers(GREATEST, frees([175, 174, 173, 172]), [0, 1000000, 14])
        self.assert_answers(GREATEST, frees([175, 174, 173]), [0, 0])

    def test_no_hold(self):
        for number in (7, -1, FAR, -FAR):
            self.assert_answers(EXAMPLE, frees([number]), [-10])
            self.assert_answers(EXAMPLE, frees([0, 5, number, 6]), [-10])

    def test_weak_fields_have_no_number(self):
        numbers = graph_row([(0, 1, [(0, 1, 0)])], [0])
        self.assert_answers(numbers, frees([1]), [-10])

    def test_a_new_object(self):
        self.assertEqual(ask(frees([]), frees([0])), [[0, 0], [-10]])

    def test_the_graph_stays(self):
        told = ask_on(EXAMPLE, frees([0, 5]), frees([7]), row(), frees([0, 5]))
        self.assertEqual(told, [[0, 51, 0, 1, 3], [-10], [0] + EXAMPLE, [0, 51, 0, 1, 3]])


class BestTest(AskCase):
    def test_example(self):
        self.assert_answers(EXAMPLE, best(), [0, 0, 1, 1])

    def test_the_greatest_size(self):
        self.assert_answers(DIAMOND, best(), [0, 0, 15, 4])
        self.assert_answers(sized_row([3, 9, 4], [[], [], []], [0, 1, 2]), best(), [0, 1, 9, 1])

    def test_the_size_before_the_count(self):
        self.assert_answers(sized_row([1, 1, 1, 9], [[1, 2], [], [], []], [0, 3]), best(), [0, 1, 9, 1])

    def test_of_the_same_size_the_most_objects(self):
        self.assert_answers(sized_row([9, 4, 5], [[], [2], []], [0, 1]), best(), [0, 1, 9, 2])
        self.assert_answers(sized_row([9, 9, 0], [[], [2], []], [0, 1]), best(), [0, 1, 9, 2])

    def test_of_the_same_count_the_least_number(self):
        self.assert_answers(sized_row([5, 5, 5], [[], [], []], [2, 0, 1]), best(), [0, 0, 5, 1])
        self.assert_answers(sized_row([0, 5, 5], [[1, 2], [], []], [0, 0]), best(), [0, 2, 5, 1])

    def test_a_field_may_be_the_best(self):
        # Two roots lead to 0, so that only its field frees anything.
        self.assert_answers(sized_row([9, 1], [[1], []], [0, 0]), best(), [0, 2, 1, 1])

    def test_holds_that_free_objects_of_size_0(self):
        self.assert_answers(sized_row([0], [[]], [0]), best(), [0, 0, 0, 1])
        self.assert_answers(sized_row([0, 0, 0], [[], [2], []], [0, 1]), best(), [0, 1, 0, 2])
        self.assert_answers(sized_row([3, 0], [[1], []], [0, 0]), best(), [0, 2, 0, 1])

    def test_no_hold_frees_anything(self):
        self.assert_answers(sized_row([9], [[]], [0, 0]), best(), [1])
        self.assert_answers(sized_row([9, 9], [[1, 1, 0], [1]], [0, 0]), best(), [1])

    def test_nothing_live(self):
        self.assert_answers(strong_row([[1], [0]], []), best(), [1])
        self.assert_answers([0, 0], best(), [1])
        self.assertEqual(ask(best()), [[1]])

    def test_holds_of_lost_objects_free_nothing(self):
        self.assert_answers(sized_row([1, 50, 50], [[], [2], []], [0]), best(), [0, 0, 1, 1])

    def test_the_greatest_graph(self):
        self.assert_answers(GREATEST, best(), [1])
        leads = [[number + 1] * 12 for number in range(13)] + [[14, 15, 16, 17]] + [[]] * 34
        self.assert_answers(sized_row(list(range(48)), leads, [0] * 16), best(), [0, 175, 17, 1])

    def test_the_graph_stays(self):
        told = ask_on(DIAMOND, best(), row(), best())
        self.assertEqual(told, [[0, 0, 15, 4], [0] + DIAMOND, [0, 0, 15, 4]])
