"""What holds free, and graphs without them."""

from whokeepsdesk.reach import lost_objects
from whokeepsdesk.rows import ROOTS_HOLDER, Graph, holder_of, size_of


def freeing_holds(graph):
    """For each hold that frees something: it, the size of all that it frees, how many these are."""
    freeing = []
    for number in range(len(graph.holds)):
        freed = lost_objects(graph, [], [number])
        if len(freed) > 0:
            freeing.append((number, size_of(graph, freed), len(freed)))
    return freeing


def best_hold(freeing):
    return min(freeing, key=lambda each: (-each[1], -each[2], each[0]))


def graph_without(graph, numbers):
    """The graph whose roots and strong fields of these holds are gone."""
    gone = {}
    for number in numbers:
        hold = graph.holds[number]
        gone[(hold.holder, hold.place)] = True
    roots = [lead for place, lead in enumerate(graph.roots) if (ROOTS_HOLDER, place) not in gone]
    fields = []
    for number, own in enumerate(graph.fields):
        holder = holder_of(number)
        fields.append([field for place, field in enumerate(own) if (holder, place) not in gone])
    return Graph(graph.kinds, graph.sizes, fields, roots)
