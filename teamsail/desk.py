"""The calls: reading their list, carrying them out, telling the answers."""

from teamsail.game import Game, add_pair, drop_pair, exchange_teams, is_boat, is_order, judge_order, make_move
from teamsail.game import moves_now, set_left, set_order, take_back, teams_of
from teamsail.race import all_combinations, fewest_passes, is_combination, judge
from teamsail.script import fill, may_be_left, written
from teamsail.solve import best_line, best_now, play_out, too_many_positions, value_now, values_now

MOST_BYTES = 2000
NO_MATCH = -1
OUT_OF_RANGE = -2
NOT_ALLOWED = -3
NOTHING_NEW = -4
NO_TURNS_LEFT = -5
NOTHING_TO_UNDO = -6
TOO_MANY_POSITIONS = -7
TEXT_TOO_LONG = -8
WRONG_LINE = -1000

LOAD = 0
TEAMS = (0, 1)
GOALS = (0, 1, 2)


class Desk:
    """The object that a list of calls is made on: it has a match, or None yet."""

    def __init__(self):
        self.game = None


def load(desk, text):
    if len(text) > MOST_BYTES:
        return [TEXT_TOO_LONG]
    # A game of its own, so that a refusal leaves the one before as it was.
    game = Game()
    wrong = fill(game, text)
    if wrong > 0:
        return [WRONG_LINE - wrong]
    desk.game = game
    return [game.boats]


# Each of these carries out one call: it has the match and what the call is
# given (its whole numbers, then its rows), and answers a list of numbers.

def call_text(game, given):
    text = written(game)
    return [len(text)] + text


def call_result(game, given):
    return judge_order(game, game.order)


def call_combs(game, given):
    combinations = all_combinations(game.boats)
    told = [len(combinations)]
    for teams in combinations:
        told.append(judge(game.points, game.tie, teams)[0])
        told.extend(teams)
    return told


def call_wins(game, given):
    results = [judge(game.points, game.tie, teams)[0] for teams in all_combinations(game.boats)]
    return [results.count(1), results.count(0), results.count(2)]


def call_judge(game, given):
    teams = given[0]
    if not is_combination(teams, game.boats):
        return [NOT_ALLOWED]
    return judge(game.points, game.tie, teams)


def call_passes(game, given):
    team = given[0]
    if team not in TEAMS:
        return [OUT_OF_RANGE]
    return fewest_passes(game.points, game.tie, teams_of(game, game.order), team)


def call_table(game, given):
    team = given[0]
    if team not in TEAMS:
        return [OUT_OF_RANGE]
    combinations = all_combinations(game.boats)
    told = [len(combinations)]
    for teams in combinations:
        told.extend(fewest_passes(game.points, game.tie, teams, team))
    return told


def call_moves(game, given):
    moves = moves_now(game)
    return [len(moves)] + moves


def call_move(game, given):
    move = given[0]
    if game.left == 0:
        return [NO_TURNS_LEFT]
    if move not in moves_now(game):
        return [NOT_ALLOWED]
    make_move(game, move)
    return [judge_order(game, game.order)[0]]


def call_undo(game, given):
    if not game.past:
        return [NOTHING_TO_UNDO]
    take_back(game)
    return [len(game.past)]


def goal_refusal(game, goal):
    """Why the game is not solved for the goal: a refusal's number, or 0."""
    if goal not in GOALS:
        return OUT_OF_RANGE
    if too_many_positions(game):
        return TOO_MANY_POSITIONS
    return 0


def call_value(game, given):
    goal = given[0]
    refused = goal_refusal(game, goal)
    if refused != 0:
        return [refused]
    return [value_now(game, goal)]


def call_best(game, given):
    goal = given[0]
    refused = goal_refusal(game, goal)
    if refused != 0:
        return [refused]
    # It is asked behind -7, as without turns left there are never too many positions.
    if game.left == 0:
        return [NO_TURNS_LEFT]
    return best_now(game, goal)


def call_values(game, given):
    goal = given[0]
    refused = goal_refusal(game, goal)
    if refused != 0:
        return [refused]
    pairs = values_now(game, goal)
    told = [len(pairs)]
    for pair in pairs:
        told.extend(pair)
    return told


def told_play(game, play):
    """An answer: the moves that were made, the order at the end, its result."""
    moves = play[0]
    order = play[1]
    return [len(moves)] + moves + [len(order)] + order + [judge_order(game, order)[0]]


def call_line(game, given):
    goal = given[0]
    refused = goal_refusal(game, goal)
    if refused != 0:
        return [refused]
    return told_play(game, best_line(game, goal))


def call_duel(game, given):
    goal = given[0]
    team = given[1]
    refused = goal_refusal(game, goal)
    if refused != 0:
        return [refused]
    if team not in TEAMS:
        return [OUT_OF_RANGE]
    play = play_out(game, goal, 1 - team, given[2])
    if play is None:
        return [NOT_ALLOWED]
    return told_play(game, play)


def call_swap(game, given):
    exchange_teams(game)
    return [0]


def is_pair(game, pair):
    return is_boat(game, pair[0]) and is_boat(game, pair[1]) and pair[0] != pair[1]


def call_can(game, given):
    pair = (given[0], given[1])
    if not is_pair(game, pair):
        return [OUT_OF_RANGE]
    if pair in game.pairs:
        return [NOTHING_NEW]
    add_pair(game, pair)
    return [len(game.pairs)]


def call_cannot(game, given):
    pair = (given[0], given[1])
    if not is_pair(game, pair):
        return [OUT_OF_RANGE]
    if pair not in game.pairs:
        return [NOTHING_NEW]
    drop_pair(game, pair)
    return [len(game.pairs)]


def call_order(game, given):
    order = given[0]
    if not is_order(game, order):
        return [NOT_ALLOWED]
    set_order(game, order)
    return [0]


def call_left(game, given):
    team = given[0]
    left = given[1]
    if team not in TEAMS or not may_be_left(left):
        return [OUT_OF_RANGE]
    set_left(game, team, left)
    return [0]


# By a call's number: how many whole numbers it has, and how many rows behind these.
FORMS = {
    0: (0, 1),
    1: (0, 0),
    2: (0, 0),
    3: (0, 0),
    4: (0, 0),
    5: (0, 1),
    6: (1, 0),
    7: (1, 0),
    8: (0, 0),
    9: (1, 0),
    10: (0, 0),
    11: (1, 0),
    12: (1, 0),
    13: (1, 0),
    14: (1, 0),
    15: (2, 1),
    16: (0, 0),
    17: (2, 0),
    18: (2, 0),
    19: (0, 1),
    20: (2, 0),
}

# By a call's number: what carries it out once there is a match.
CARRIERS = {
    1: call_text,
    2: call_result,
    3: call_combs,
    4: call_wins,
    5: call_judge,
    6: call_passes,
    7: call_table,
    8: call_moves,
    9: call_move,
    10: call_undo,
    11: call_value,
    12: call_best,
    13: call_values,
    14: call_line,
    15: call_duel,
    16: call_swap,
    17: call_can,
    18: call_cannot,
    19: call_order,
    20: call_left,
}


def read_calls(calls):
    """The calls as pairs: a call's number, and a list of what it is given."""
    pairs = []
    at = 0
    while at < len(calls):
        number = calls[at]
        form = FORMS[number]
        at += 1
        given = calls[at:at + form[0]]
        at += form[0]
        for k in range(form[1]):
            size = calls[at]
            given.append(calls[at + 1:at + 1 + size])
            at += 1 + size
        pairs.append((number, given))
    return pairs


def answer(desk, number, given):
    if number == LOAD:
        return load(desk, given[0])
    if desk.game is None:
        return [NO_MATCH]
    carry_out = CARRIERS[number]
    return carry_out(desk.game, given)


def answers(calls):
    """The answers to a list of calls, each with its length ahead of it."""
    desk = Desk()
    told = []
    for number, given in read_calls(calls):
        numbers = answer(desk, number, given)
        told.append(len(numbers))
        told.extend(numbers)
    return told
