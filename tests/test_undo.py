"""Point 14: undo, and the graphs before."""

from tests.helper import (
    EXAMPLE, AskCase, around, ask, best, cut, frees, holds, keepers, keeps, kept, kinds, live, load, release, row,
    sizes, strong_row, tree, undo, ways, without,
)


def marked_row(number):
    return [1, number, 0, 0, 0]


def row_told(number):
    return [0] + marked_row(number)


def rooted_row(count):
    """One object, and so many roots to it."""
    return strong_row([[]], [0] * count)


def rooted_told(count):
    return [0] + rooted_row(count)


class UndoTest(AskCase):
    def test_none_before(self):
        self.assertEqual(ask(undo(), row()), [[-11], [0, 0, 0]])

    def test_back_to_the_new_object(self):
        told = ask(load(EXAMPLE), undo(), row(), undo(), row())
        self.assertEqual(told[1:], [[0], [0, 0, 0], [-11], [0, 0, 0]])

    def test_the_graph_is_whole_again(self):
        asked = [row(), holds(), live(), tree(), keepers(3), around(3, [1], [])]
        told = ask(load(EXAMPLE), *asked, load(strong_row([[]], [0])), undo(), *asked)
        self.assertEqual(told[1:7], told[9:])

    def test_the_latest_first(self):
        loads = [load(marked_row(number)) for number in range(3)]
        told = ask(*loads, undo(), row(), undo(), row(), undo(), row(), undo())
        self.assertEqual(told[3:], [[0], row_told(1), [0], row_told(0), [0], [0, 0, 0], [-11]])

    def test_undo_is_not_undone(self):
        told = ask(load(marked_row(1)), load(marked_row(2)), undo(), load(marked_row(3)), undo(), row(), undo(), row())
        self.assertEqual(told[4:], [[0], row_told(1), [0], [0, 0, 0]])

    def test_the_same_graph_again_is_a_change(self):
        told = ask(load(marked_row(1)), load(marked_row(1)), undo(), row(), undo(), row())
        self.assertEqual(told[2:], [[0], row_told(1), [0], [0, 0, 0]])

    def test_a_refused_load_is_no_change(self):
        told = ask(load(marked_row(1)), load([]), load([5]), undo(), row(), undo())
        self.assertEqual(told[1:], [[-12], [-12], [0], [0, 0, 0], [-11]])

    def test_what_only_asks_is_no_change(self):
        asked = [row(), holds(), live(), without([0], []), around(0, [], []), keeps(0, 0), keepers(0), tree()]
        told = ask(load(marked_row(1)), *asked, undo(), row(), undo())
        self.assertEqual(told[9:], [[0], [0, 0, 0], [-11]])
        asked = [kept([0]), kept([]), sizes(), kinds(), frees([0]), frees([]), best(), cut(0), ways(0)]
        told = ask(load(rooted_row(1)), *asked, undo(), row(), undo())
        self.assertEqual(told[10:], [[0], [0, 0, 0], [-11]])

    def test_what_is_refused_is_no_change(self):
        asked = [kept([1]), frees([1]), cut(1), ways(1), release([1]), release([0, -1]), undo(), row(), undo()]
        told = ask(load(rooted_row(1)), *asked)
        self.assertEqual(told[1:], [[-3], [-10], [-3], [-3], [-10], [-10], [0], [0, 0, 0], [-11]])

    def test_release_and_load_mixed(self):
        calls = [load(rooted_row(3)), release([1]), load(marked_row(7)), release([]), load(rooted_row(2)), release([0])]
        told = ask(*calls, row(), *[undo(), row()] * 6, undo())
        self.assertEqual(told[6], rooted_told(1))
        rows = [rooted_told(2), row_told(7), row_told(7), rooted_told(2), rooted_told(3), [0, 0, 0]]
        expected = []
        for each in rows:
            expected += [[0], each]
        self.assertEqual(told[7:], expected + [[-11]])

    def test_all_is_told_as_before_a_release(self):
        asked = [row(), holds(), live(), tree(), sizes(), kinds(), best(), cut(3), ways(3), kept([0, 2]), frees([0, 5])]
        told = ask(load(EXAMPLE), *asked, release([0, 5, 3]), *asked, undo(), *asked)
        self.assertEqual(told[1:12], told[25:])
        self.assertNotEqual(told[1:12], told[13:24])

    def test_release_after_undo(self):
        told = ask(load(rooted_row(4)), release([3]), release([0]), undo(), release([0, 1]), undo(), undo(), row())
        self.assertEqual(told[1:], [[0, 0, 0], [0, 0, 0], [0], [0, 0, 0], [0], [0], rooted_told(4)])

    def test_16_before_with_releases(self):
        # The empty graph, then 16 roots to 1: with that of 1 held, 16 graphs are before, and all can be had again.
        told = ask(load(rooted_row(16)), *[release([0])] * 15, row(), *[undo()] * 15, row(), undo(), row(), undo())
        self.assertEqual(told[16], rooted_told(1))
        self.assertEqual(told[17:], [[0]] * 15 + [rooted_told(16), [0], [0, 0, 0], [-11]])

    def test_the_17th_is_forgotten_with_releases(self):
        told = ask(load(rooted_row(16)), *[release([0])] * 16, *[undo()] * 16, row(), undo(), row())
        self.assertEqual(told[17:], [[0]] * 16 + [rooted_told(16), [-11], rooted_told(16)])
        turns = []
        for number in range(10):
            turns += [load(rooted_row(number + 1)), release([0])]
        told = ask(*turns, *[undo(), row()] * 17)
        # 20 changes: what the fourth one made, the second release, is the 16th before.
        self.assertEqual(told[20:24], [[0], rooted_told(10), [0], rooted_told(8)])
        self.assertEqual(told[48:], [[0], rooted_told(3), [0], rooted_told(1), [-11], rooted_told(1)])

    def test_16_before(self):
        loads = [load(marked_row(number)) for number in range(16)]
        told = ask(*loads, *[undo(), row()] * 16, undo(), row())
        expected = []
        for number in reversed(range(15)):
            expected += [[0], row_told(number)]
        self.assertEqual(told[16:], expected + [[0], [0, 0, 0], [-11], [0, 0, 0]])

    def test_the_17th_is_forgotten(self):
        loads = [load(marked_row(number)) for number in range(19)]
        told = ask(*loads, *[undo(), row()] * 16, undo(), row())
        expected = []
        for number in reversed(range(2, 18)):
            expected += [[0], row_told(number)]
        self.assertEqual(told[19:], expected + [[-11], row_told(2)])

    def test_room_again_after_undo(self):
        loads = [load(marked_row(number)) for number in range(17)]
        told = ask(*loads, undo(), undo(), load(marked_row(50)), *[undo()] * 16, row())
        self.assertEqual(told[20:], [[0]] * 15 + [[-11], row_told(0)])
