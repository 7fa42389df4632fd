"""What the tests share: texts of matches, calls as lists of numbers, answers taken apart."""

from teamsail.desk import answers

PAIR_ORDER = "R1 B1 R2 B2"
TRIO_ORDER = "R1 B1 R2 B2 R3 B3"


def match_text(points, tie="draw", order=None, turn="R", left=4, cans=()):
    """A right text; as many boats a team as half the points tell."""
    boats = len(points.split()) // 2
    if order is None:
        order = PAIR_ORDER if boats == 2 else TRIO_ORDER
    lines = [
        f"boats {boats}",
        f"points {points}",
        f"tie {tie}",
        f"order {order}",
        f"turn {turn}",
        f"left {left}",
    ]
    lines.extend("can " + pair for pair in cans)
    return "".join(line + "\n" for line in lines)


def load(text):
    numbers = list(text.encode("latin-1"))
    return [0, len(numbers)] + numbers


TEXT = [1]
RESULT = [2]
COMBS = [3]
WINS = [4]
MOVES = [8]
UNDO = [10]
SWAP = [16]


def judge(teams):
    return [5, len(teams)] + list(teams)


def passes(team):
    return [6, team]


def table(team):
    return [7, team]


def move(number):
    return [9, number]


def value(goal):
    return [11, goal]


def best(goal):
    return [12, goal]


def values(goal):
    return [13, goal]


def line(goal):
    return [14, goal]


def duel(goal, team, moves):
    return [15, goal, team, len(moves)] + list(moves)


def can(a, b):
    return [17, a, b]


def cannot(a, b):
    return [18, a, b]


def order(boats):
    return [19, len(boats)] + list(boats)


def left(team, turns):
    return [20, team, turns]


def ask(*calls):
    """The answers to these calls, one list each."""
    told = answers([number for call in calls for number in call])
    apart = []
    at = 0
    while at < len(told):
        apart.append(told[at + 1:at + 1 + told[at]])
        at += 1 + told[at]
    assert at == len(told) and len(apart) == len(calls)
    return apart


def ask_last(*calls):
    return ask(*calls)[-1]


def as_text(answer):
    """The text in an answer of the call text."""
    assert answer[0] == len(answer) - 1
    return bytes(answer[1:]).decode("ascii")


def text_now(*calls):
    """The match as written behind these calls."""
    return as_text(ask_last(*calls, TEXT))
