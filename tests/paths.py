"""A match solved by another way than the program's, to hold its answers against.

Boats are names here. All ways to the end are walked, each with the results of
all orders on it, and a goal is looked at only at a way's end: by the last
result, the worst or the best one for team 0.
"""

import itertools

from tests.calling import match_text

# A result's number by how good it is for team 0.
NUMBERS = {1: 1, 0: 0, -1: 2}
LOOKS = {0: lambda results: results[-1], 1: min, 2: max}
OTHER = {"R": "B", "B": "R"}


class Match:
    def __init__(self, points, tie, order, turn, left, cans=()):
        self.told = (points, tie, order, turn, left, cans)
        self.points = [int(worth) for worth in points.split()]
        self.tie = tie
        self.order = tuple(order.split())
        self.turn = turn
        self.left = left
        self.cans = [tuple(pair.split()) for pair in cans]

    def text(self):
        return match_text(*self.told)

    def names(self):
        boats = len(self.order) // 2
        return [letter + str(k) for letter in "RB" for k in range(1, boats + 1)]

    def numbers(self, order):
        return [self.names().index(name) for name in order]

    def good(self, order):
        """How good an order is for team 0: 1, 0 or -1."""
        ahead = sum(worth if name[0] == "B" else -worth for worth, name in zip(self.points, order))
        if ahead != 0:
            return 1 if ahead > 0 else -1
        if self.tie == "draw":
            return 0
        loser = order[0] if self.tie == "first" else order[-1]
        return -1 if loser[0] == "R" else 1

    def steps(self, order, turn):
        """By the moves rising: each with the order behind it."""
        steps = {0: order}
        for ahead, behind in zip(range(len(order)), range(1, len(order))):
            changed = list(order)
            changed[ahead], changed[behind] = order[behind], order[ahead]
            if order[behind][0] == turn and (order[behind], order[ahead]) in self.cans:
                steps[behind + 1] = tuple(changed)
            if order[ahead][0] == turn:
                steps[101 + ahead] = tuple(changed)
        return dict(sorted(steps.items()))

    def walk(self, goal, order, turn, left, before=()):
        """How good what the teams are sure of is for team 0, behind the results on the way."""
        results = before + (self.good(order),)
        if left == 0:
            return LOOKS[goal](results)
        choose = max if turn == "R" else min
        return choose(self.walk(goal, behind, OTHER[turn], left - 1, results)
                      for behind in self.steps(order, turn).values())

    def value(self, goal):
        return NUMBERS[self.walk(goal, self.order, self.turn, self.left)]

    def worths(self, goal, order, turn, left):
        """By the moves rising: how good the match behind each is for team 0."""
        return {move: self.walk(goal, behind, OTHER[turn], left - 1)
                for move, behind in self.steps(order, turn).items()}

    def values(self, goal):
        if self.left == 0:
            return [0]
        worths = self.worths(goal, self.order, self.turn, self.left)
        return [len(worths)] + [number for move, worth in worths.items() for number in (move, NUMBERS[worth])]

    def best_move(self, goal, order, turn, left):
        worths = self.worths(goal, order, turn, left)
        wanted = max(worths.values()) if turn == "R" else min(worths.values())
        return min(move for move, worth in worths.items() if worth == wanted)

    def best(self, goal):
        return [self.best_move(goal, self.order, self.turn, self.left), self.value(goal)]

    def play(self, goal, best_teams, row=()):
        """What line and duel answer, if the row is right: these teams make best moves."""
        order, turn, row = self.order, self.turn, list(row)
        made = []
        for left in range(self.left, 0, -1):
            made.append(self.best_move(goal, order, turn, left) if turn in best_teams else row.pop(0))
            order = self.steps(order, turn)[made[-1]]
            turn = OTHER[turn]
        assert row == []
        return [len(made)] + made + [len(order)] + self.numbers(order) + [NUMBERS[self.good(order)]]

    def rows(self, goal, team):
        """All rows of moves that the other team can make while this one makes best moves."""
        ways = [((), self.order)]
        turn = self.turn
        for left in range(self.left, 0, -1):
            if turn == team:
                ways = [(row, self.steps(order, turn)[self.best_move(goal, order, turn, left)]) for row, order in ways]
            else:
                ways = [(row + (move,), behind) for row, order in ways
                        for move, behind in self.steps(order, turn).items()]
            turn = OTHER[turn]
        return [row for row, order in ways]


def some_matches(random, count, boats, lefts):
    """Matches by a source of numbers that begins the same each time."""
    names = [letter + str(k) for letter in "RB" for k in range(1, boats + 1)]
    every_pair = [a + " " + b for a, b in itertools.permutations(names, 2)]
    scales = ("1 2 3 4", "1 2 3 9", "0 7 8 9") if boats == 2 else ("1 2 3 4 5 6", "1 2 3 8 9 13", "0 1 2 3 4 50")
    for k in range(count):
        random.shuffle(names)
        cans = random.sample(every_pair, random.randrange(len(every_pair) + 1))
        yield Match(scales[k % 3], ("draw", "first", "last")[k // 3 % 3], " ".join(names), random.choice("RB"),
                    lefts[k % len(lefts)], cans)
