"""What is left of a match as a game: its values, best moves, and how it is played to the end."""

from teamsail.game import judge_order, moves_at, order_behind

MOST_POSITIONS = 100000
# The goals beside 0, the result at the end.
WORST_FROM_NOW = 1
BEST_FROM_NOW = 2
# By a result: how good it is for team 0.
RANKS = (1, 2, 0)
# In the place of a team where none makes told moves.
NO_TEAM = -1


class Search:
    """The values of a game for one goal: each that is known is kept, as many
    ways lead to the same order."""

    def __init__(self, game, goal):
        self.game = game
        self.goal = goal
        self.known = {}


def too_many_positions(game):
    count = 1
    for turn in range(game.left):
        count *= 2 * game.boats + 1
    return count > MOST_POSITIONS


def rank_for(team, result):
    """The better a result is for the team, the more."""
    return RANKS[result] if team == 0 else -RANKS[result]


def best_for(team, results):
    return max(results, key=lambda result: rank_for(team, result))


def value_at(search, order, turn, left):
    """The value of the match that has this order, turn and turns left."""
    position = (tuple(order), turn, left)
    if position not in search.known:
        search.known[position] = new_value(search, order, turn, left)
    return search.known[position]


def new_value(search, order, turn, left):
    now = judge_order(search.game, order)[0]
    if left == 0:
        return now
    behind = best_for(turn, [pair[1] for pair in values_behind(search, order, turn, left)])
    # What is worst for team 0 is best for team 1.
    if search.goal == WORST_FROM_NOW:
        return best_for(1, [behind, now])
    if search.goal == BEST_FROM_NOW:
        return best_for(0, [behind, now])
    return behind


def values_behind(search, order, turn, left):
    """Pairs, by the moves rising: a move, the value of the match behind it."""
    pairs = []
    for move in moves_at(search.game, order, turn):
        pairs.append((move, value_at(search, order_behind(order, move), 1 - turn, left - 1)))
    return pairs


def best_move(search, order, turn, left):
    # Of several as good as one another max takes the first, which has the least number.
    return max(values_behind(search, order, turn, left), key=lambda pair: rank_for(turn, pair[1]))[0]


def value_now(game, goal):
    return value_at(Search(game, goal), game.order, game.turn, game.left)


def best_now(game, goal):
    """The best move, while turns are left, and the value."""
    search = Search(game, goal)
    return [
        best_move(search, game.order, game.turn, game.left),
        value_at(search, game.order, game.turn, game.left),
    ]


def values_now(game, goal):
    if game.left == 0:
        return []
    return values_behind(Search(game, goal), game.order, game.turn, game.left)


def play_out(game, goal, teller, row):
    """All moves to the end, and the order there; the game itself stays as it is.

    The team that is the teller makes the moves of the row, any other team its
    best ones. None if the row has a move that may not be made when its turn
    comes, or too few moves or too many.
    """
    search = Search(game, goal)
    order = game.order
    turn = game.turn
    made = []
    used = 0
    for left in range(game.left, 0, -1):
        if turn == teller:
            if used == len(row) or row[used] not in moves_at(game, order, turn):
                return None
            move = row[used]
            used += 1
        else:
            move = best_move(search, order, turn, left)
        made.append(move)
        order = order_behind(order, move)
        turn = 1 - turn
    return (made, order) if used == len(row) else None


def best_line(game, goal):
    return play_out(game, goal, NO_TEAM, [])
