"""Breaking runs: moves by which a plan that has a fault loses a letter."""

from nohalfway.plans import least_fault, refuse_unless_plan
from nohalfway.runs import STEP, Run

GO = ("go", 0)


def steps_ahead(plan, place, house):
    turn = ("turn", house)
    if plan[place] == turn:
        return place + 1
    # Just ahead of its house's turn a letter still gets the mark 0, and from there on no wait holds the steps up.
    done = plan[:place]
    return done.index(turn) if turn in done else place


def moves_till_lost(run, moves):
    for move in moves:
        run.move(move)
    told = run.move(GO)
    goes = [GO]
    while told[0] != "lost":
        told = run.move(GO)
        goes.append(GO)
    return moves + goes


def breaking(net, old, new, plan):
    refuse_unless_plan(net, old, new, plan)
    found = least_fault(net, old, new, plan)
    if found is None:
        return None
    steps = found[0] + 1
    ahead = steps_ahead(plan, found[0], found[1][0])
    moves = [STEP] * ahead + [("come", found[1], found[2])] + [STEP] * (steps - ahead)
    return moves_till_lost(Run(net, old, new, plan), moves)
