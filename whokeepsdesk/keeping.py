"""Who keeps whom, and kept sizes."""

from whokeepsdesk.reach import live_objects, lost_objects
from whokeepsdesk.rows import size_of


def keeps(graph, keeper, kept):
    return kept in lost_objects(graph, [keeper], [])


def keepers_by_object(graph):
    """For each live object, rising, its keepers in order from outside."""
    live = live_objects(graph, [], [])
    keepers = {}
    for number in live:
        keepers[number] = []
    for number in live:
        for kept in lost_objects(graph, [number], []):
            keepers[kept].append(number)
    ordered = {}
    for number in live:
        # A keeper is itself kept by just those before it and itself: the fewer, the further outside.
        ordered[number] = sorted(keepers[number], key=lambda keeper: len(keepers[keeper]))
    return ordered


def kept_sizes(graph):
    """Each live object and its kept size: the greatest first, of the same the lesser number first."""
    pairs = []
    for number in live_objects(graph, [], []):
        pairs.append((number, size_of(graph, lost_objects(graph, [number], []))))
    return sorted(pairs, key=lambda pair: (-pair[1], pair[0]))


def live_by_kind(graph):
    """For each kind that a live object has, these objects."""
    grouped = {}
    for number in live_objects(graph, [], []):
        grouped.setdefault(graph.kinds[number], []).append(number)
    return grouped
