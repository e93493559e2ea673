"""Who keeps whom."""

from whokeepsdesk.reach import live_objects, lost_objects


def keeps(graph, keeper, kept):
    return kept in lost_objects(graph, [keeper], [])


def keepers_by_object(graph):
    """For each live object, rising, its keepers in order from outside."""
    live = live_objects(graph, [], [])
    keepers = {}
    for number in live:
        keepers[number] = []
    for number in live:
        for kept in lost_objects(graph, [number], []):
            keepers[kept].append(number)
    ordered = {}
    for number in live:
        # A keeper is itself kept by just those before it and itself: the fewer, the further outside.
        ordered[number] = sorted(keepers[number], key=lambda keeper: len(keepers[keeper]))
    return ordered
