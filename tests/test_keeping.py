"""Points 5, 6, and 7 as far as it speaks of tree: keeps, keepers, tree."""

from tests.helper import EXAMPLE, FAR, AskCase, ask, ask_on, graph_row, keepers, keeps, row, strong_row, tree

CHAIN = strong_row([[number + 1] for number in range(47)] + [[]], [0])
# 3 keeps 1, which keeps 4 and 0 by two ways that meet in 2; 5 is lost and leads to 0.
KNOT = strong_row([[2], [0, 4], [], [1, 3], [2], [0]], [3])


class KeepsTest(AskCase):
    def assert_keeps(self, numbers, x, y, expected):
        self.assert_answers(numbers, keeps(x, y), [0, expected])

    def test_a_live_object_keeps_itself(self):
        for number in range(4):
            self.assert_keeps(EXAMPLE, number, number, 1)

    def test_a_lost_object_keeps_nothing(self):
        for number in range(5):
            self.assert_keeps(EXAMPLE, 4, number, 0)
        self.assert_keeps(KNOT, 5, 0, 0)

    def test_a_lost_object_is_not_kept(self):
        for number in range(5):
            self.assert_keeps(EXAMPLE, number, 4, 0)

    def test_the_only_way(self):
        self.assert_keeps(KNOT, 3, 2, 1)
        self.assert_keeps(KNOT, 1, 2, 1)
        self.assert_keeps(KNOT, 2, 1, 0)

    def test_one_of_two_ways(self):
        self.assert_keeps(KNOT, 0, 2, 0)
        self.assert_keeps(KNOT, 4, 2, 0)

    def test_two_roots_to_one_object(self):
        self.assert_keeps(strong_row([[1], []], [0, 0]), 0, 1, 1)

    def test_a_weak_field_keeps_nothing(self):
        numbers = graph_row([(0, 0, [(0, 1, 1)]), (0, 0, [])], [0, 1])
        self.assert_keeps(numbers, 0, 1, 0)

    def test_no_object(self):
        for number in (5, -1, FAR, -FAR):
            self.assert_answers(EXAMPLE, keeps(number, 0), [-3])
            self.assert_answers(EXAMPLE, keeps(0, number), [-3])
            self.assert_answers(EXAMPLE, keeps(4, number), [-3])
        self.assertEqual(ask(keeps(0, 0)), [[-3]])

    def test_the_graph_stays(self):
        self.assertEqual(ask_on(KNOT, keeps(3, 2), keeps(6, 2), row()), [[0, 1], [-3], [0] + KNOT])


class KeepersTest(AskCase):
    def test_example(self):
        self.assert_answers(EXAMPLE, keepers(3), [0, 3])

    def test_from_outside(self):
        self.assert_answers(KNOT, keepers(3), [0, 3])
        self.assert_answers(KNOT, keepers(1), [0, 3, 1])
        self.assert_answers(KNOT, keepers(2), [0, 3, 1, 2])
        self.assert_answers(KNOT, keepers(4), [0, 3, 1, 4])

    def test_from_outside_with_falling_and_mixed_numbers(self):
        falling = strong_row([[], [0], [1], [2]], [3])
        self.assert_answers(falling, keepers(0), [0, 3, 2, 1, 0])
        mixed = strong_row([[3], [], [0], [1]], [2])
        self.assert_answers(mixed, keepers(1), [0, 2, 0, 3, 1])

    def test_the_longest_chain(self):
        self.assert_answers(CHAIN, keepers(47), [0] + list(range(48)))

    def test_lost(self):
        self.assert_answers(EXAMPLE, keepers(4), [-4])
        self.assert_answers(KNOT, keepers(5), [-4])
        self.assert_answers(strong_row([[0]], []), keepers(0), [-4])

    def test_no_object(self):
        for number in (5, -1, FAR, -FAR):
            self.assert_answers(EXAMPLE, keepers(number), [-3])
        self.assertEqual(ask(keepers(0)), [[-3]])

    def test_the_graph_stays(self):
        told = ask_on(EXAMPLE, keepers(3), keepers(4), keepers(5), row())
        self.assertEqual(told, [[0, 3], [-4], [-3], [0] + EXAMPLE])


class TreeTest(AskCase):
    def test_example(self):
        self.assert_answers(EXAMPLE, tree(), [0, 0, 0, 1, 1, 0, 1, 2, 0, 1, 3, 0, 1])

    def test_keepers_and_how_many(self):
        self.assert_answers(KNOT, tree(), [0, 0, 2, 3, 1, 4, 2, 2, 2, 3, 3, 0, 1, 4, 2, 3])

    def test_the_keeper_is_object_0(self):
        self.assert_answers(strong_row([[1], []], [0]), tree(), [0, 0, 0, 1, 1, 1, 2])

    def test_nothing_live(self):
        self.assert_answers(strong_row([[0], [0]], []), tree(), [0])
        self.assertEqual(ask(tree()), [[0]])

    def test_two_roots_to_one_object(self):
        self.assert_answers(strong_row([[1], []], [0, 0]), tree(), [0, 0, 0, 1, 1, 1, 2])

    def test_the_longest_chain(self):
        expected = [0]
        for number in range(48):
            expected += [number, number, number + 1]
        self.assert_answers(CHAIN, tree(), expected)

    def test_the_graph_stays(self):
        self.assertEqual(ask_on(KNOT, tree(), row())[1], [0] + KNOT)
