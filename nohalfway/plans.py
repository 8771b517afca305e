"""Plans: steps by which all houses change while letters run, and the first fault of a plan."""

from nohalfway.books import refuse_unless_books
from nohalfway.errors import NoPlan
from nohalfway.patterns import addresses
from nohalfway.ways import walked
from nohalfway.wholes import is_whole_within

MOST_STEPS = 40
WAIT = ("wait",)


def is_step(thing, net):
    if not isinstance(thing, tuple) or len(thing) not in (1, 2) or not isinstance(thing[0], str):
        return False
    if len(thing) == 1:
        return thing[0] == "wait"
    return thing[0] in ("teach", "turn", "forget") and is_whole_within(thing[1], 0, net.many - 1)


def is_plan(thing, net):
    if not isinstance(thing, list) or len(thing) > MOST_STEPS:
        return False
    if not all([is_step(step, net) for step in thing]):
        return False
    once = [step for step in thing if step != WAIT]
    return len(set(once)) == len(once)


def plain_plan(net):
    houses = list(range(net.many))
    taught = [("teach", house) for house in houses]
    turned = [("turn", house) for house in houses]
    return taught + turned + [WAIT] + [("forget", house) for house in houses]


def first_untaught(done, doors):
    for door in doors:
        if ("teach", door[0]) not in done:
            return door[0]
    return None


def is_waited_for(done, house):
    # Behind the turn no letter with the mark 0 comes in at this house, so a wait behind it is one for them all.
    turn = ("turn", house)
    return turn in done and WAIT in done[done.index(turn):]


def house_at_fault(net, old, new, plan, place, door, address):
    step = plan[place]
    done = plan[:place]
    if step == ("turn", door[0]):
        return first_untaught(done, walked(net, new, door, address)[0])
    if step[0] == "forget" and not is_waited_for(done, door[0]):
        if step[1] in [house for house, number in walked(net, old, door, address)[0]]:
            return step[1]
    return None


def least_fault(net, old, new, plan):
    for place in range(len(plan)):
        for door in net.outer():
            for address in addresses("xxxx"):
                house = house_at_fault(net, old, new, plan, place, door, address)
                if house is not None:
                    return (place, door, address, house)
    return None


def refuse_unless_plan(net, old, new, plan):
    refuse_unless_books(old, net)
    refuse_unless_books(new, net)
    if not is_plan(plan, net):
        raise NoPlan("a plan is a list of at most forty steps, each but a wait once")


def fault(net, old, new, plan):
    refuse_unless_plan(net, old, new, plan)
    return least_fault(net, old, new, plan)
