"""The interface: whokeepsdesk.graph.answers, and the document's example as one line."""

import contextlib
import inspect
import io

from tests.helper import (
    EXAMPLE, AskCase, around, best, cut, frees, holds, keepers, keeps, kept, kinds, live, load, release, row, sizes,
    strong_row, tree, undo, ways, without,
)
from whokeepsdesk.graph import answers

LINE = (
    load(EXAMPLE) + row() + holds() + live() + keepers(3) + tree()
    + without([2], []) + without([], [0]) + kept([0, 2]) + sizes() + best() + cut(3) + ways(3)
    + around(3, [1], []) + keeps(0, 0) + kinds() + frees([0, 5]) + release([0, 5]) + live()
)
TOLD = (
    [3, 0, 5, 7]
    + [len(EXAMPLE) + 1, 0] + EXAMPLE
    + [22, 0, 0, 0, 0, 0, 1, 2, 1, 0, 1, 1, 1, 2, 2, 0, 3, 3, 0, 3, 4, 0, 1]
    + [5, 0, 0, 1, 2, 3]
    + [2, 0, 3]
    + [13, 0, 0, 0, 1, 1, 0, 1, 2, 0, 1, 3, 0, 1]
    + [4, 0, 0, 1, 3]
    + [4, 0, 1, 2, 3]
    + [6, 0, 71, 0, 1, 2, 3]
    + [9, 0, 3, 40, 2, 20, 1, 10, 0, 1]
    + [4, 0, 0, 1, 1]
    + [3, 0, 0, 1]
    + [9, 0, 2, 3, 0, 2, 4, 2, 1, 5]
    + [3, 0, 1, 5]
    + [2, 0, 1]
    + [5, 0, 0, 4, 71, 71]
    + [5, 0, 51, 0, 1, 3]
    + [3, 0, 3, 51]
    + [2, 0, 2]
)


class UnchangedList(list):
    """A list that any change to it makes fail, also one that is taken back."""

    def refuse(self, *rest):
        raise AssertionError("the list handed in was changed")

    append = clear = extend = insert = pop = remove = reverse = sort = refuse
    __setitem__ = __delitem__ = __iadd__ = __imul__ = refuse


class AnswersTest(AskCase):
    def test_its_name_and_argument(self):
        self.assertEqual(list(inspect.signature(answers).parameters), ["calls"])

    def test_example_in_one_line(self):
        self.assertEqual(answers(LINE), TOLD)

    def test_a_refusal_is_its_number_alone(self):
        line = load([]) + without([0], []) + without([], [0]) + undo() + around(0, [], [])
        self.assertEqual(answers(line), [1, -12, 1, -3, 1, -10, 1, -11, 1, -3])
        self.assertEqual(answers(load([1, 0, 0, 0, 0]) + keepers(0)), [3, 0, 1, 0, 1, -4])
        line = kept([0]) + frees([0]) + cut(0) + ways(0) + release([0])
        self.assertEqual(answers(line), [1, -3, 1, -10, 1, -3, 1, -3, 1, -10])
        self.assertEqual(answers(load([1, 0, 0, 0, 0]) + cut(0) + ways(0)), [3, 0, 1, 0, 1, -4, 1, -4])

    def test_1_is_alone_too(self):
        self.assertEqual(answers(load([1, 0, 0, 0, 0]) + around(0, [], []) + best()), [3, 0, 1, 0, 1, 1, 1, 1])

    def test_every_call_on_a_new_object(self):
        line = (
            load([0, 0]) + row() + holds() + live() + without([], []) + around(0, [], []) + keeps(0, 0) + keepers(0)
            + tree() + kept([]) + sizes() + kinds() + frees([]) + best() + cut(0) + ways(0) + release([]) + undo()
        )
        told = [3, 0, 0, 0, 3, 0, 0, 0] + [1, 0] * 3 + [1, -3] * 3 + [1, 0, 2, 0, 0, 1, 0, 1, 0, 2, 0, 0, 1, 1]
        self.assertEqual(answers(line), told + [1, -3, 1, -3, 3, 0, 0, 0, 1, 0])

    def test_one_call(self):
        self.assertEqual(answers([3]), [1, 0])

    def test_numbers_that_look_like_calls(self):
        # Lists are gone past by their counts, whatever stands in them, in refused calls too.
        line = load([17, 17, 1, 3]) + without([3, 17], [0, 1]) + around(1, [3], [17]) + keeps(17, 17) + live()
        self.assertEqual(answers(line), [1, -12, 1, -3, 1, -3, 1, -3, 1, 0])
        line = kept([17, 16, 1]) + frees([13, 0]) + cut(17) + ways(16) + release([17, 17]) + live()
        self.assertEqual(answers(line), [1, -3, 1, -10, 1, -3, 1, -3, 1, -10, 1, 0])

    def test_what_is_handed_in_is_not_changed(self):
        calls = UnchangedList(LINE + undo())
        answers(calls)
        self.assertEqual(list(calls), LINE + undo())

    def test_what_is_given_back_is_a_list_of_its_own(self):
        calls = list(LINE)
        told = answers(calls)
        told.clear()
        self.assertEqual(calls, LINE)
        self.assertEqual(answers(calls), TOLD)

    def test_nothing_is_kept(self):
        self.assertEqual(answers(LINE), answers(LINE))
        self.assertEqual(answers(undo() + row() + live()), [1, -11, 3, 0, 0, 0, 1, 0])

    def test_whole_numbers_and_lists(self):
        told = answers(LINE)
        self.assertIs(type(told), list)
        self.assertEqual({type(number) for number in told}, {int})

    def test_it_prints_nothing(self):
        out = io.StringIO()
        with contextlib.redirect_stdout(out), contextlib.redirect_stderr(out):
            answers(LINE)
        self.assertEqual(out.getvalue(), "")

    def test_the_longest_line(self):
        chain = strong_row([[number + 1] for number in range(47)] + [[]], [0])
        many = [47 - number % 24 for number in range(140)]
        calls = load(chain) + without(many, many) * 57 + around(47, [], []) + live()
        calls_told = [3, 0, 48, 48] + ([25, 0] + list(range(24))) * 57
        self.assertEqual(answers(calls), calls_told + ([49, 0] + list(range(48))) * 2)

    def test_the_greatest_lists(self):
        calls = load(EXAMPLE) + without([2] * 1000, [6] * 1000) + around(3, [1] * 1000, [3] * 1000)
        self.assertEqual(answers(calls)[4:], [4, 0, 0, 1, 3, 3, 0, 1, 5])
        calls = load(EXAMPLE) + kept([2, 0] * 500) + frees([5, 0] * 500) + release([5, 0] * 500)
        self.assertEqual(answers(calls)[4:], [6, 0, 71, 0, 1, 2, 3, 5, 0, 51, 0, 1, 3, 3, 0, 3, 51])
