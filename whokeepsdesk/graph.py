"""The calls on one object, and what they answer."""

from whokeepsdesk.desk import Desk
from whokeepsdesk.freeing import best_hold, freeing_holds, graph_without
from whokeepsdesk.keeping import keepers_by_object, keeps, kept_sizes, live_by_kind
from whokeepsdesk.parting import told_cut, told_ways
from whokeepsdesk.reach import first_way, live_objects, lost_objects
from whokeepsdesk.reader import Reader
from whokeepsdesk.rows import NoGraphRow, read_graph, size_of, tell_row

DONE = 0
NO_WAY = 1
NOTHING_FREED = 1
NO_OBJECT = -3
LOST = -4
NO_HOLD = -10
NONE_BEFORE = -11
NO_GRAPH_ROW = -12


def refusal_of(graph, objects, holds):
    """The refusal that's due for numbers that are none, or DONE."""
    if not all_below(objects, len(graph.kinds)):
        return NO_OBJECT
    if not all_below(holds, len(graph.holds)):
        return NO_HOLD
    return DONE


def all_below(numbers, bound):
    return all([0 <= number < bound for number in numbers])


def refusal_unless_live(graph, number):
    """The refusal that's due where this must be a live object, or DONE."""
    if not all_below([number], len(graph.kinds)):
        return NO_OBJECT
    if number not in live_objects(graph, [], []):
        return LOST
    return DONE


def answer_load(desk, numbers, lists):
    try:
        graph = read_graph(lists[0])
    except NoGraphRow:
        return [NO_GRAPH_ROW]
    desk.change(graph)
    return [DONE, len(graph.kinds), len(graph.holds)]


def answer_row(desk, numbers, lists):
    return [DONE] + tell_row(desk.graph)


def answer_holds(desk, numbers, lists):
    told = [DONE]
    for hold in desk.graph.holds:
        told.extend([hold.holder, hold.place, hold.lead])
    return told


def answer_live(desk, numbers, lists):
    return [DONE] + live_objects(desk.graph, [], [])


def answer_without(desk, numbers, lists):
    refusal = refusal_of(desk.graph, lists[0], lists[1])
    if refusal != DONE:
        return [refusal]
    return [DONE] + live_objects(desk.graph, lists[0], lists[1])


def answer_around(desk, numbers, lists):
    refusal = refusal_of(desk.graph, numbers + lists[0], lists[1])
    if refusal != DONE:
        return [refusal]
    way = first_way(desk.graph, numbers[0], lists[0], lists[1])
    if len(way) == 0:
        return [NO_WAY]
    return [DONE] + way


def answer_keeps(desk, numbers, lists):
    refusal = refusal_of(desk.graph, numbers, [])
    if refusal != DONE:
        return [refusal]
    return [DONE, 1 if keeps(desk.graph, numbers[0], numbers[1]) else 0]


def answer_keepers(desk, numbers, lists):
    refusal = refusal_unless_live(desk.graph, numbers[0])
    if refusal != DONE:
        return [refusal]
    return [DONE] + keepers_by_object(desk.graph)[numbers[0]]


def answer_tree(desk, numbers, lists):
    told = [DONE]
    for number, keepers in keepers_by_object(desk.graph).items():
        keeper = keepers[-2] + 1 if len(keepers) > 1 else 0
        told.extend([number, keeper, len(keepers)])
    return told


def answer_kept(desk, numbers, lists):
    refusal = refusal_of(desk.graph, lists[0], [])
    if refusal != DONE:
        return [refusal]
    together = lost_objects(desk.graph, lists[0], [])
    return [DONE, size_of(desk.graph, together)] + together


def answer_sizes(desk, numbers, lists):
    told = [DONE]
    for pair in kept_sizes(desk.graph):
        told.extend(pair)
    return told


def answer_kinds(desk, numbers, lists):
    told = [DONE]
    grouped = live_by_kind(desk.graph)
    for kind in sorted(grouped):
        own = grouped[kind]
        together = lost_objects(desk.graph, own, [])
        told.extend([kind, len(own), size_of(desk.graph, own), size_of(desk.graph, together)])
    return told


def answer_frees(desk, numbers, lists):
    refusal = refusal_of(desk.graph, [], lists[0])
    if refusal != DONE:
        return [refusal]
    freed = lost_objects(desk.graph, [], lists[0])
    return [DONE, size_of(desk.graph, freed)] + freed


def answer_best(desk, numbers, lists):
    freeing = freeing_holds(desk.graph)
    if len(freeing) == 0:
        return [NOTHING_FREED]
    return [DONE] + list(best_hold(freeing))


def answer_cut(desk, numbers, lists):
    refusal = refusal_unless_live(desk.graph, numbers[0])
    if refusal != DONE:
        return [refusal]
    return [DONE] + told_cut(desk.graph, numbers[0])


def answer_ways(desk, numbers, lists):
    refusal = refusal_unless_live(desk.graph, numbers[0])
    if refusal != DONE:
        return [refusal]
    ways = told_ways(desk.graph, numbers[0])
    told = [DONE, len(ways)]
    for way in ways:
        told.append(len(way))
        told.extend(way)
    return told


def answer_release(desk, numbers, lists):
    refusal = refusal_of(desk.graph, [], lists[0])
    if refusal != DONE:
        return [refusal]
    freed = lost_objects(desk.graph, [], lists[0])
    size = size_of(desk.graph, freed)
    desk.change(graph_without(desk.graph, lists[0]))
    return [DONE, len(freed), size]


def answer_undo(desk, numbers, lists):
    if len(desk.before) == 0:
        return [NONE_BEFORE]
    desk.step_back()
    return [DONE]


# By a call's number: how many numbers and how many lists it is handed, and what answers it.
CALLS = {
    0: (0, 1, answer_load),
    1: (0, 0, answer_row),
    2: (0, 0, answer_holds),
    3: (0, 0, answer_live),
    4: (0, 2, answer_without),
    5: (1, 2, answer_around),
    6: (2, 0, answer_keeps),
    7: (1, 0, answer_keepers),
    8: (0, 0, answer_tree),
    9: (0, 1, answer_kept),
    10: (0, 0, answer_sizes),
    11: (0, 0, answer_kinds),
    12: (0, 1, answer_frees),
    13: (0, 0, answer_best),
    14: (1, 0, answer_cut),
    15: (1, 0, answer_ways),
    16: (0, 1, answer_release),
    17: (0, 0, answer_undo),
}


def answers(calls):
    """Makes the calls one behind another on a new object; tells each answer with its count ahead."""
    desk = Desk()
    reader = Reader(calls)
    told = []
    while not reader.ended():
        answer = answer_next(desk, reader)
        told.append(len(answer))
        told.extend(answer)
    return told


def answer_next(desk, reader):
    call = CALLS[reader.take()]
    numbers = reader.take_many(call[0])
    lists = []
    for place in range(call[1]):
        count = reader.take()
        lists.append(reader.take_many(count))
    return call[2](desk, numbers, lists)
