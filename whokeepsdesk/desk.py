"""The object that calls are made on: a graph, and those before."""

from whokeepsdesk.rows import empty_graph

MOST_BEFORE = 16


class Desk:
    """Holds a graph; before has those held earlier, the latest first."""

    def __init__(self):
        self.graph = empty_graph()
        self.before = []

    def change(self, graph):
        self.before = ([self.graph] + self.before)[:MOST_BEFORE]
        self.graph = graph

    def step_back(self):
        self.graph = self.before[0]
        self.before = self.before[1:]
