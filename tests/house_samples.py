"""Houses that the tests share, and what jobs earn by plain reckoning."""

from itertools import combinations

from samples import Dice

# Two jobs that together pay for the tool that neither of them pays for alone.
SHARED = (4, (("bake", 3, 1, ("oven",)), ("roast", 2, 1, ("oven",))), (("oven", 8, 1),))
# One job alone, one tool alone.
JOB_ALONE = (2, (("a", 0, 1, ()),), ())
TOOL_ALONE = (2, (), (("t", 5, 1),))
# Jobs that earn nothing, tools that cost nothing.
IDLE = (3, (("a", 0, 0, ()), ("b", 0, 0, ("t",)), ("c", 0, 5, ("t", "u"))), (("t", 0, 0), ("u", 3, 1)))
# Names of jobs and tools in turn; one tool comes to cost nothing at TOP.
WOVEN = (9, (("b", 5, 2, ("a", "c")), ("d", 0, 9, ("c", "e")), ("f", 40, 0, ("a", "e", "g")), ("h", 1, 1, ())),
         (("a", 9, 1), ("c", 30, 0), ("e", 45, 2), ("g", 12, 0)))
# As much as a house can have of everything.
FULL_HOUSE = (9, tuple((name, 99, 99, ("ta", "tb", "tc", "td")) for name in ("ja", "jb", "jc", "jd")),
              tuple((name, 999, 99) for name in ("ta", "tb", "tc", "td")))
# One job after another begins to pay.
STEPS = (9, (("a", 0, 9, ("t",)), ("b", 0, 8, ("t", "u")), ("c", 0, 7, ("u", "v")), ("d", 0, 1, ("v",)),
             ("e", 0, 1, ())), (("t", 20, 0), ("u", 30, 1), ("v", 40, 2)))

KEPT_HOUSES = (SHARED, JOB_ALONE, TOOL_ALONE, IDLE, WOVEN, FULL_HOUSE, STEPS)


def thrown_house(dice, great):
    """A house with numbers up to great, or up to the bounds where they are less."""
    top = dice.throw(1, 9)
    names = list("abcdefgh")[:dice.throw(1, 8)]
    are_jobs = [dice.throw(0, 9) < 5 for _ in names]
    tools = []
    for name, is_job in zip(names, are_jobs):
        if not is_job:
            falls = dice.throw(0, min(great, 99))
            tools.append((name, dice.throw(falls * top, max(falls * top, min(4 * great, 999))), falls))
    left = 16
    jobs = []
    for name, is_job in zip(names, are_jobs):
        if is_job:
            wants = tuple(tool[0] for tool in tools if dice.throw(0, 2))[:left]
            left -= len(wants)
            jobs.append((name, dice.throw(0, min(great, 99)), dice.throw(0, min(great, 99)), wants))
    return (top, tuple(jobs), tuple(tools))


def thrown_houses(seed, many):
    """So many houses, small numbers and great ones in turn."""
    dice = Dice(seed)
    return [thrown_house(dice, (1, 3, 12, 99)[at % 4]) for at in range(many)]


def sets_of_jobs(house):
    """All rising tuples of jobs."""
    names = [job[0] for job in house[1]]
    return [chosen for many in range(len(names) + 1) for chosen in combinations(names, many)]


def line_earned(house, done):
    """What done jobs earn less what their tools cost: (BASE, LEAN), by going through what they want."""
    base = lean = 0
    wanted = set()
    for name, gain, grows, wants in house[1]:
        if name in done:
            base += gain
            lean += grows
            wanted |= set(wants)
    for name, cost, falls in house[2]:
        if name in wanted:
            base -= cost
            lean += falls
    return base, lean


def plain_best(house, at):
    """The most that can be earned at a price, and what all sets of jobs that earn it have."""
    earned = {}
    for done in sets_of_jobs(house):
        base, lean = line_earned(house, done)
        earned[done] = base + lean * at
    most = max(earned.values())
    best = [set(done) for done in earned if earned[done] == most]
    return most, tuple(sorted(set.intersection(*best)))
