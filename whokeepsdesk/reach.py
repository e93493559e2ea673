"""What is live, also where objects are taken out and holds are cut."""

from whokeepsdesk.rows import ROOTS_HOLDER, holder_of


def first_holds(graph, taken, cut):
    """For each live object the last hold of the first way to it.

    Holders wait in the order of the first ways to them, and each one's holds
    are gone through rising: so the hold that finds an object ends its first way.
    """
    barred_objects = marked(taken)
    barred_holds = marked(cut)
    found = {}
    waiting = [ROOTS_HOLDER]
    at = 0
    while at < len(waiting):
        for number in graph.held[waiting[at]]:
            lead = graph.holds[number].lead
            if number in barred_holds or lead in barred_objects or lead in found:
                continue
            found[lead] = number
            waiting.append(holder_of(lead))
        at += 1
    return found


def marked(numbers):
    marks = {}
    for number in numbers:
        marks[number] = True
    return marks


def live_objects(graph, taken, cut):
    return sorted(first_holds(graph, taken, cut))


def lost_objects(graph, taken, cut):
    """The live objects that aren't live where these are taken out and cut."""
    left = first_holds(graph, taken, cut)
    return [number for number in live_objects(graph, [], []) if number not in left]


def first_way(graph, target, taken, cut):
    """The first way in the order of ways, or an empty list if there's none."""
    found = first_holds(graph, taken, cut)
    if target not in found:
        return []
    way = []
    holder = holder_of(target)
    while holder != ROOTS_HOLDER:
        number = found[holder - 1]
        way.append(number)
        holder = graph.holds[number].holder
    way.reverse()
    return way
