"""Point 13: release."""

from tests.helper import (
    EXAMPLE, FAR, GREATEST, AskCase, ask, ask_on, frees, graph_row, holds, live, load, release, row, sized_row,
    strong_row, undo,
)

# Labels tell the fields apart. Weak fields stand before, between and behind the strong ones.
MIXED_FIELDS = [(10, 1, 0), (11, 0, 1), (12, 1, 1), (13, 0, 0), (14, 0, 1), (15, 1, 2)]
MIXED = graph_row([(3, 1, MIXED_FIELDS), (4, 2, [(16, 0, 2)]), (5, 4, [])], [0, 2, 1])


def mixed_row(labels, roots):
    """MIXED with these fields of 0 and these roots."""
    fields = [field for field in MIXED_FIELDS if field[0] in labels]
    return graph_row([(3, 1, fields), (4, 2, [(16, 0, 2)]), (5, 4, [])], roots)


class ReleaseTest(AskCase):
    def assert_released(self, numbers, gone, answer, left):
        self.assertEqual(ask_on(numbers, release(gone), row()), [answer, [0] + left])

    def test_example(self):
        left = [5, 0, 1, 2, 0, 0, 1, 1, 0, 2, 0, 10, 1, 0, 0, 3, 0, 20, 1, 2, 1, 4, 0, 40, 1, 0, 0, 1, 0, 80, 0, 1, 2]
        told = ask_on(EXAMPLE, release([0, 5]), live(), row(), holds())
        self.assertEqual(told[:3], [[0, 3, 51], [0, 2], [0] + left])
        self.assertEqual(told[3], [0, 0, 0, 2, 1, 0, 1, 1, 1, 2, 2, 0, 3, 4, 0, 1])

    def test_roots_gone(self):
        self.assert_released(MIXED, [1], [0, 0, 0], mixed_row(range(10, 16), [0, 1]))
        self.assert_released(MIXED, [0], [0, 1, 1], mixed_row(range(10, 16), [2, 1]))
        self.assert_released(MIXED, [0, 1, 2], [0, 3, 7], mixed_row(range(10, 16), []))

    def test_strong_fields_gone_and_weak_fields_stay(self):
        self.assert_released(MIXED, [3], [0, 0, 0], mixed_row([10, 12, 13, 14, 15], [0, 2, 1]))
        self.assert_released(MIXED, [4], [0, 0, 0], mixed_row([10, 11, 12, 14, 15], [0, 2, 1]))
        self.assert_released(MIXED, [5, 3], [0, 0, 0], mixed_row([10, 12, 13, 15], [0, 2, 1]))
        self.assert_released(MIXED, [3, 4, 5], [0, 0, 0], mixed_row([10, 12, 15], [0, 2, 1]))

    def test_roots_and_fields_at_once(self):
        self.assert_released(MIXED, [2, 3, 5], [0, 1, 2], mixed_row([10, 12, 13, 15], [0, 2]))

    def test_every_hold(self):
        left = graph_row([(3, 1, [(10, 1, 0), (12, 1, 1), (15, 1, 2)]), (4, 2, []), (5, 4, [])], [])
        self.assert_released(MIXED, list(range(7)), [0, 3, 7], left)

    def test_holds_are_numbered_anew(self):
        told = ask_on(MIXED, release([1, 3]), holds(), release([2]), holds(), release([4]), release([3]), holds())
        self.assertEqual(told[1], [0, 0, 0, 0, 0, 1, 1, 1, 2, 0, 1, 3, 1, 2, 0, 2])
        self.assertEqual(told[3], [0, 0, 0, 0, 0, 1, 1, 1, 2, 1, 2, 0, 2])
        self.assertEqual(told[4:6], [[-10], [0, 1, 4]])
        self.assertEqual(told[6], [0, 0, 0, 0, 0, 1, 1, 1, 2, 1])

    def test_objects_keep_their_numbers(self):
        numbers = sized_row([1, 2, 4], [[], [2], []], [0, 1])
        told = ask_on(numbers, release([0]), live(), row())
        self.assertEqual(told, [[0, 1, 1], [0, 1, 2], [0] + sized_row([1, 2, 4], [[], [2], []], [1])])

    def test_it_frees_what_frees_tells(self):
        told = ask_on(MIXED, frees([0, 2]), release([0, 2]), live())
        self.assertEqual(told, [[0, 3, 0, 1], [0, 2, 3], [0, 2]])

    def test_lost_objects_are_not_freed_again(self):
        told = ask_on(MIXED, release([0, 2]), release([1]), live())
        self.assertEqual(told, [[0, 2, 3], [0, 0, 0], [0, 2]])

    def test_holds_of_lost_objects(self):
        numbers = strong_row([[], [0, 1]], [0])
        self.assert_released(numbers, [1], [0, 0, 0], strong_row([[], [1]], [0]))

    def test_no_holds(self):
        self.assert_released(MIXED, [], [0, 0, 0], MIXED)
        self.assertEqual(ask(release([]), row(), undo(), undo()), [[0, 0, 0], [0, 0, 0], [0], [-11]])

    def test_no_holds_is_a_change(self):
        told = ask(load(MIXED), release([]), undo(), row(), undo(), row(), undo())
        self.assertEqual(told[1:], [[0, 0, 0], [0], [0] + MIXED, [0], [0, 0, 0], [-11]])

    def test_any_order_and_some_twice(self):
        self.assert_released(MIXED, [5, 2, 5, 3, 2], [0, 1, 2], mixed_row([10, 12, 13, 15], [0, 2]))
        self.assert_released(MIXED, [5, 3] * 500, [0, 0, 0], mixed_row([10, 12, 13, 15], [0, 2, 1]))

    def test_two_roots_to_one_object(self):
        self.assert_released(sized_row([7], [[]], [0, 0]), [1], [0, 0, 0], sized_row([7], [[]], [0]))
        self.assert_released(sized_row([7], [[]], [0, 0]), [1, 0], [0, 1, 7], sized_row([7], [[]], []))

    def test_several_fields_to_one_object(self):
        numbers = sized_row([1, 2], [[1, 1, 1], []], [0])
        self.assert_released(numbers, [1, 3], [0, 0, 0], sized_row([1, 2], [[1], []], [0]))
        self.assert_released(numbers, [1, 2, 3], [0, 1, 2], sized_row([1, 2], [[], []], [0]))

    def test_a_field_to_its_own_object(self):
        self.assert_released(sized_row([7], [[0]], [0]), [1], [0, 0, 0], sized_row([7], [[]], [0]))
        self.assert_released(sized_row([7], [[0]], [0]), [0], [0, 1, 7], sized_row([7], [[0]], []))

    def test_objects_of_size_0(self):
        self.assert_released(sized_row([0, 0], [[1], []], [0]), [1], [0, 1, 0], sized_row([0, 0], [[], []], [0]))

    def test_the_greatest_graph(self):
        told = ask_on(GREATEST, release(list(range(175, -1, -1))), holds(), live(), undo(), row())
        self.assertEqual(told, [[0, 15, 15000000], [0], [0], [0], [0] + GREATEST])
        told = ask_on(GREATEST, release([172, 173, 174, 175]), live(), release([172]))
        self.assertEqual(told, [[0, 1, 1000000], [0] + list(range(14)), [-10]])

    def test_undo_of_it(self):
        told = ask_on(MIXED, release([0, 3]), undo(), row(), holds(), live())
        before = ask_on(MIXED, holds(), live())
        self.assertEqual(told[1:], [[0], [0] + MIXED] + before)

    def test_no_hold(self):
        for number in (7, -1, FAR, -FAR):
            for gone in ([number], [0, 5, number, 6]):
                told = ask(load(EXAMPLE), release(gone), row(), undo(), row(), undo())
                self.assertEqual(told[1:], [[-10], [0] + EXAMPLE, [0], [0, 0, 0], [-11]])

    def test_a_new_object(self):
        self.assertEqual(ask(release([0]), undo()), [[-10], [-11]])
