"""Combinations of teams: what they are worth, and how few passes turn them."""


def all_combinations(boats):
    """All rows of teams with so many boats of either one, in order."""
    rows = [[]]
    for place in range(2 * boats):
        # Team 0 is tried ahead of team 1 at every place: so the rows come out in order.
        longer = []
        for row in rows:
            for team in (0, 1):
                if row.count(team) < boats:
                    longer.append(row + [team])
        rows = longer
    return rows


def is_combination(row, boats):
    return len(row) == 2 * boats and row.count(0) == boats and row.count(1) == boats


def team_points(points, teams, team):
    return sum([worth for worth, holder in zip(points, teams) if holder == team])


def tie_result(tie, teams):
    if tie == "draw":
        return 0
    loser = teams[0] if tie == "first" else teams[-1]
    # A loss of team 1 is result 1, one of team 0 is result 2.
    return 2 - loser


def judge(points, tie, teams):
    """The result of a combination, the points of team 0, those of team 1."""
    first = team_points(points, teams, 0)
    second = team_points(points, teams, 1)
    if first < second:
        return [1, first, second]
    if first > second:
        return [2, first, second]
    return [tie_result(tie, teams), first, second]


def team_wins(points, tie, teams, team):
    return judge(points, tie, teams)[0] == team + 1


def one_pass_on(teams, team):
    """The combinations behind each single pass of the team."""
    behind = []
    for k in range(1, len(teams)):
        if teams[k] == team and teams[k - 1] != team:
            behind.append(teams[:k - 1] + [teams[k], teams[k - 1]] + teams[k + 1:])
    return behind


def next_level(level, team, seen):
    """What one more pass leads to, without what fewer passes led to."""
    reached = []
    for teams in level:
        for behind in one_pass_on(teams, team):
            if tuple(behind) not in seen:
                seen[tuple(behind)] = True
                reached.append(behind)
    return reached


def fewest_passes(points, tie, teams, team):
    """[1, how many passes] behind which the team wins, or [0] if none do."""
    level = [teams]
    seen = {tuple(teams): True}
    count = 0
    while level:
        if any([team_wins(points, tie, reached, team) for reached in level]):
            return [1, count]
        level = next_level(level, team, seen)
        count += 1
    return [0]
