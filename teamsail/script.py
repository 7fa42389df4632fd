"""The text of a match: reading it line by line, and writing it."""

LINE_END = 10
REMARK = 35
MOST_LEFT = 20
MOST_DIGITS = 4
TIES = ("draw", "first", "last")
LETTERS = ("R", "B")
SIGNS = " 0123456789BRabcdefghijklmnopqrstuvwxyz"
# It stands for every byte that no right line has, so a word with it is never right.
NO_SIGN = "?"


def boat_names(boats):
    """The names by the boats' numbers."""
    names = []
    for letter in LETTERS:
        for k in range(1, boats + 1):
            names.append(letter + str(k))
    return names


def sign_of(byte):
    for sign in SIGNS:
        if ord(sign) == byte:
            return sign
    return NO_SIGN


def words_of(line):
    return "".join([sign_of(byte) for byte in line]).split(" ")


def lines_of(text):
    lines = []
    line = []
    for byte in text:
        if byte == LINE_END:
            lines.append(line)
            line = []
        else:
            line.append(byte)
    if line:
        lines.append(line)
    return lines


def means_nothing(line):
    return line == [] or line[0] == REMARK


def number_of(word):
    """The number that a word tells, or -1 if it tells none."""
    if not word.isdigit() or len(word) > MOST_DIGITS:
        return -1
    if len(word) > 1 and word[0] == "0":
        return -1
    return int(word)


def may_be_left(turns):
    return turns >= 0 and turns <= MOST_LEFT


# Each of these takes the words behind a line's first one into the game, and
# tells whether they are right.

def take_boats(game, words):
    if words != ["2"] and words != ["3"]:
        return False
    game.boats = int(words[0])
    return True


def take_points(game, words):
    points = [number_of(word) for word in words]
    if len(points) != 2 * game.boats or -1 in points:
        return False
    if any([points[k] <= points[k - 1] for k in range(1, len(points))]):
        return False
    game.points = points
    return True


def take_tie(game, words):
    if len(words) != 1 or words[0] not in TIES:
        return False
    game.tie = words[0]
    return True


def take_order(game, words):
    names = boat_names(game.boats)
    if sorted(words) != sorted(names):
        return False
    game.order = [names.index(word) for word in words]
    return True


def take_turn(game, words):
    if len(words) != 1 or words[0] not in LETTERS:
        return False
    game.turn = LETTERS.index(words[0])
    return True


def take_left(game, words):
    if len(words) != 1 or not may_be_left(number_of(words[0])):
        return False
    game.left = number_of(words[0])
    return True


def take_can(game, words):
    names = boat_names(game.boats)
    if len(words) != 2 or words[0] not in names or words[1] not in names:
        return False
    pair = (names.index(words[0]), names.index(words[1]))
    if pair[0] == pair[1] or pair in game.pairs:
        return False
    game.pairs[pair] = True
    return True


# The lines in their order; the last kind may stand as often as one likes, or not at all.
FIRST_WORDS = ("boats", "points", "tie", "order", "turn", "left", "can")
TAKERS = (take_boats, take_points, take_tie, take_order, take_turn, take_left, take_can)
LAST_KIND = 6


def take_line(game, taken, line):
    """Take the line that stands behind so many others; tell whether it is right."""
    kind = min(taken, LAST_KIND)
    words = words_of(line)
    if words[0] != FIRST_WORDS[kind]:
        return False
    take = TAKERS[kind]
    return take(game, words[1:])


def fill(game, text):
    """Read the text into a new game: the number of the first wrong line, or 0."""
    lines = lines_of(text)
    taken = 0
    for number, line in enumerate(lines, start=1):
        if means_nothing(line):
            continue
        if not take_line(game, taken, line):
            return number
        taken += 1
    if taken < LAST_KIND:
        return len(lines) + 1
    return 0


def written_lines(game):
    names = boat_names(game.boats)
    lines = [
        "boats " + str(game.boats),
        "points " + " ".join([str(worth) for worth in game.points]),
        "tie " + game.tie,
        "order " + " ".join([names[boat] for boat in game.order]),
        "turn " + LETTERS[game.turn],
        "left " + str(game.left),
    ]
    for pair in game.pairs:
        lines.append("can " + names[pair[0]] + " " + names[pair[1]])
    return lines


def written(game):
    """The bytes of the match's text as written."""
    return [ord(sign) for sign in "".join([line + "\n" for line in written_lines(game)])]
