"""Point 14: undo, and the graphs before."""

from tests.helper import (
    EXAMPLE, AskCase, around, ask, holds, keepers, keeps, live, load, row, strong_row, tree, undo, without,
)


def marked_row(number):
    return [1, number, 0, 0, 0]


def row_told(number):
    return [0] + marked_row(number)


class UndoTest(AskCase):
    def test_none_before(self):
        self.assertEqual(ask(undo(), row()), [[-11], [0, 0, 0]])

    def test_back_to_the_new_object(self):
        told = ask(load(EXAMPLE), undo(), row(), undo(), row())
        self.assertEqual(told[1:], [[0], [0, 0, 0], [-11], [0, 0, 0]])

    def test_the_graph_is_whole_again(self):
        asked = [row(), holds(), live(), tree(), keepers(3), around(3, [1], [])]
        told = ask(load(EXAMPLE), *asked, load(strong_row([[]], [0])), undo(), *asked)
        self.assertEqual(told[1:7], told[9:])

    def test_the_latest_first(self):
        loads = [load(marked_row(number)) for number in range(3)]
        told = ask(*loads, undo(), row(), undo(), row(), undo(), row(), undo())
        self.assertEqual(told[3:], [[0], row_told(1), [0], row_told(0), [0], [0, 0, 0], [-11]])

    def test_undo_is_not_undone(self):
        told = ask(load(marked_row(1)), load(marked_row(2)), undo(), load(marked_row(3)), undo(), row(), undo(), row())
        self.assertEqual(told[4:], [[0], row_told(1), [0], [0, 0, 0]])

    def test_the_same_graph_again_is_a_change(self):
        told = ask(load(marked_row(1)), load(marked_row(1)), undo(), row(), undo(), row())
        self.assertEqual(told[2:], [[0], row_told(1), [0], [0, 0, 0]])

    def test_a_refused_load_is_no_change(self):
        told = ask(load(marked_row(1)), load([]), load([5]), undo(), row(), undo())
        self.assertEqual(told[1:], [[-12], [-12], [0], [0, 0, 0], [-11]])

    def test_what_only_asks_is_no_change(self):
        asked = [row(), holds(), live(), without([0], []), around(0, [], []), keeps(0, 0), keepers(0), tree()]
        told = ask(load(marked_row(1)), *asked, undo(), row(), undo())
        self.assertEqual(told[9:], [[0], [0, 0, 0], [-11]])

    def test_16_before(self):
        loads = [load(marked_row(number)) for number in range(16)]
        told = ask(*loads, *[undo(), row()] * 16, undo(), row())
        expected = []
        for number in reversed(range(15)):
            expected += [[0], row_told(number)]
        self.assertEqual(told[16:], expected + [[0], [0, 0, 0], [-11], [0, 0, 0]])

    def test_the_17th_is_forgotten(self):
        loads = [load(marked_row(number)) for number in range(19)]
        told = ask(*loads, *[undo(), row()] * 16, undo(), row())
        expected = []
        for number in reversed(range(2, 18)):
            expected += [[0], row_told(number)]
        self.assertEqual(told[19:], expected + [[-11], row_told(2)])

    def test_room_again_after_undo(self):
        loads = [load(marked_row(number)) for number in range(17)]
        told = ask(*loads, undo(), undo(), load(marked_row(50)), *[undo()] * 16, row())
        self.assertEqual(told[20:], [[0]] * 15 + [[-11], row_told(0)])
