"""A match as it stands, its moves, taking them back, and changing the match."""

from teamsail.race import judge

LET_BY = 100


class Game:
    """What the document calls a match.

    An order that has been stored is never changed in place, so the past may
    keep it without a copy.
    """

    def __init__(self):
        self.boats = 0
        self.points = []
        self.tie = ""
        self.order = []
        self.turn = 0
        self.left = 0
        # A dict of True: it keeps the order in which the pairs came.
        self.pairs = {}
        self.past = []


def teams_of(game, order):
    """The combination that is left of an order."""
    return [boat // game.boats for boat in order]


def judge_order(game, order):
    return judge(game.points, game.tie, teams_of(game, order))


def moves_at(game, order, turn):
    """The moves of the team whose turn it is, rising, while turns are left."""
    teams = teams_of(game, order)
    moves = [0]
    for k in range(2, len(order) + 1):
        if teams[k - 1] == turn and (order[k - 1], order[k - 2]) in game.pairs:
            moves.append(k)
    for k in range(1, len(order)):
        if teams[k - 1] == turn:
            moves.append(LET_BY + k)
    return moves


def moves_now(game):
    if game.left == 0:
        return []
    return moves_at(game, game.order, game.turn)


def order_behind(order, move):
    """A new order: the one behind a move that may be made."""
    if move == 0:
        return list(order)
    # Letting by at place k changes the same two boats as a pass at place k + 1.
    k = move if move < LET_BY else move - LET_BY + 1
    return order[:k - 2] + [order[k - 1], order[k - 2]] + order[k:]


def make_move(game, move):
    game.past.append((game.order, game.turn, game.left))
    game.order = order_behind(game.order, move)
    game.turn = 1 - game.turn
    game.left -= 1


def take_back(game):
    before = game.past.pop()
    game.order = before[0]
    game.turn = before[1]
    game.left = before[2]


def is_boat(game, number):
    return number >= 0 and number < 2 * game.boats


def is_order(game, row):
    return sorted(row) == list(range(2 * game.boats))


def counterpart(game, boat):
    """The boat of the other team that is numbered alike within its team."""
    return boat - game.boats if boat >= game.boats else boat + game.boats


# What the past keeps is no past of a match that was changed otherwise than by
# a move: so each of these forgets it.

def forget_past(game):
    game.past = []


def exchange_teams(game):
    exchanged = {}
    for pair in game.pairs:
        exchanged[(counterpart(game, pair[0]), counterpart(game, pair[1]))] = True
    game.pairs = exchanged
    game.order = [counterpart(game, boat) for boat in game.order]
    game.turn = 1 - game.turn
    forget_past(game)


def add_pair(game, pair):
    game.pairs[pair] = True
    forget_past(game)


def drop_pair(game, pair):
    game.pairs.pop(pair)
    forget_past(game)


def set_order(game, order):
    game.order = order
    forget_past(game)


def set_left(game, turn, left):
    game.turn = turn
    game.left = left
    forget_past(game)
