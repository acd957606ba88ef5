"""Plain forms of expressions, and papers found for sayings."""

from stairsay.against import against
from stairsay.goals import all_names, climbed_goal, goal_of_saying, is_taken, names_fit, split_goal
from stairsay.moves import moves, parts_within
from stairsay.names import LETTERS
from stairsay.places import arguments_of, filled, matched, put_at
from stairsay.steps import stepped, told_by_row

MOST_TURNS = 40
MOST_TUPLES = 200
MOST_DEEP = 12
# How far a paper is looked for where plain forms alone don't give one. A paper has at most 100 steps in a row.
MOST_STEPS_OF_A_SIDE = 50
MOST_ROUNDS = 3
MOST_MOVES = 40
MOST_BRANCHINGS = 2
MOST_GOALS = 40
TRIED_THINGS = 3
TRIED_CALLS = 60


def plain(program, expression):
    other = expression
    steps = []
    while len(steps) < MOST_TURNS:
        turn = first_turn(program, other)
        if turn is None:
            break
        step, other = turn
        steps.append(step)
    return (other, tuple(steps))


# A step that turns a call and what it makes; None where nothing can be turned or each turn makes something too great.
def first_turn(program, expression):
    # Inner calls first, so that what a row puts in at several places is turned but once.
    for place, part in reversed(parts_within(expression)):
        turned = turned_call(program, part)
        if turned is not None:
            ground, put_ins, body = turned
            made = put_at(expression, place, body)
            if is_small(made):
                return ((place, ground, False, put_ins), made)
    return None


# The ground, the put-ins and what comes of it, for a call that can be turned; else None.
def turned_call(program, call):
    if call[0] != "call" or not call[2] or call[2][0][0] != "make":
        return None
    ground = ("row", call[1], call[2][0][1])
    told = told_by_row(program, ground[1], ground[2])
    if told is None:
        return None
    names, first, body = told
    put_ins = matched(first, call)
    if put_ins is None:
        return None
    return (ground, tuple([(name, put_ins[name]) for name in names]), filled(body, put_ins))


def is_small(expression):
    count = 0
    waiting = [(expression, 1)]
    while waiting:
        part, deep = waiting.pop()
        count += 1
        if count > MOST_TUPLES or deep > MOST_DEEP:
            return False
        waiting.extend([(argument, deep + 1) for argument in arguments_of(part)])
    return True


def found(program, shown, saying):
    goal = goal_of_saying(saying)
    steps = joined(plain_trail(program, goal.left), plain_trail(program, goal.right))
    if steps is not None:
        return ("steps", steps)
    # A saying that doesn't hold isn't worth a long look.
    if against(program, saying, TRIED_THINGS, TRIED_CALLS) is not None:
        return None
    for branchings in range(MOST_BRANCHINGS + 1):
        paper = Search(program, shown).paper_for(goal, branchings)
        if paper is not None:
            return paper
    return None


# A dict from each expression that is reached to the steps that lead there, at first to the plain one alone.
def plain_trail(program, expression):
    other, steps = plain(program, expression)
    return {other: steps}


# The steps from where the one begins to where the other does, by an expression that both reach; None without one.
def joined(ends, other_ends):
    for expression, steps in ends.items():
        if expression in other_ends:
            return steps + gone_back(other_ends[expression])
    return None


def gone_back(steps):
    return tuple([(place, ground, not back, put_ins) for place, ground, back, put_ins in reversed(steps)])


class Search:
    def __init__(self, program, shown):
        self.program = program
        self.shown = shown
        self.goals_left = MOST_GOALS
        # For the goal that is looked at.
        self.moves_left = MOST_MOVES

    def paper_for(self, goal, branchings):
        if self.goals_left == 0 or not is_small(goal.left) or not is_small(goal.right):
            return None
        self.goals_left -= 1
        self.moves_left = MOST_MOVES
        steps = self.steps_for(goal)
        if steps is not None:
            return ("steps", steps)
        if branchings == 0:
            return None
        for name in awaited_names(self.program, goal):
            form = "climb" if name in goal.open_names else "split"
            branches = self.branches_for(goal, form, name, branchings - 1)
            if branches is not None:
                return (form, name, branches)
        return None

    # Rounds of moves from both sides at once, until an expression is reached from both.
    def steps_for(self, goal):
        ends, other_ends = plain_trail(self.program, goal.left), plain_trail(self.program, goal.right)
        front, other_front = list(ends), list(other_ends)
        for each in range(MOST_ROUNDS):
            steps = joined(ends, other_ends)
            if steps is not None:
                return steps
            front = self.widened(goal, ends, front)
            other_front = self.widened(goal, other_ends, other_front)
        return joined(ends, other_ends)

    # Puts into ends what one move and then turns reach from the front, and tells what of it is new.
    def widened(self, goal, ends, front):
        newest = []
        for expression in front:
            for move in moves(self.program, self.shown, goal, expression):
                made = stepped(self.program, self.shown, goal, expression, move)
                if made is None or not is_small(made):
                    continue
                if self.moves_left == 0:
                    return newest
                self.moves_left -= 1
                other, turns = plain(self.program, made)
                steps = ends[expression] + (move,) + turns
                if other not in ends and len(steps) <= MOST_STEPS_OF_A_SIDE:
                    ends[other] = steps
                    newest.append(other)
        return newest

    def branches_for(self, goal, form, name, branchings):
        branches = []
        for maker in self.program.stock.makers(all_names(goal)[name]):
            parts = self.program.stock.parts(maker)
            names = fresh_names(goal, len(parts))
            if not names_fit(goal, names, parts):
                return None
            paper = self.paper_for(branched_goal(goal, form, name, maker, names, parts), branchings)
            if paper is None:
                return None
            branches.append((names, paper))
        return tuple(branches)


def branched_goal(goal, form, name, maker, names, parts):
    if form == "climb":
        return climbed_goal(goal, name, maker, names, parts)
    return split_goal(goal, name, maker, names, parts)


def fresh_names(goal, count):
    return tuple([letter for letter in LETTERS if not is_taken(goal, letter)][:count])


# The names for which some call can't be turned: a maker in their place lets it.
def awaited_names(program, goal):
    awaited = {}
    for side in (goal.left, goal.right):
        for place, part in parts_within(plain(program, side)[0]):
            if part[0] == "call" and part[2][0][0] == "name":
                awaited[part[2][0][1]] = True
    return list(awaited)
