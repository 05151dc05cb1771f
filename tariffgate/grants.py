"""How a line is served: what each entry is granted, through which quotas it goes, and what cuts it short."""


# The quotas to which some of what goes through the told one may be led over, each with an entry to which that belongs.
def led_over(line, flows, place):
    others = {}
    for entry, flow in enumerate(flows):
        if flow[place] > 0:
            for other in line[entry][0]:
                others.setdefault(other, entry)
    return others


# All quotas whose room can come to the entry, the nearest ahead. For each stands what has to be led there, and
# from where: (entry, place), the place None where it is the entry itself, which comes from without.
def reached_by(line, flows, entry):
    reached = dict([(place, (entry, None)) for place in line[entry][0]])
    waiting = list(reached)
    while len(waiting) > 0:
        place = waiting.pop(0)
        others = led_over(line, flows, place)
        for other in others:
            if other not in reached:
                reached[other] = (others[other], place)
                waiting.append(other)
    return reached


# Tuples (entry, the quota that it leaves, the quota to which it comes), from the told quota back to the entry itself.
def moves_to(reached, place):
    moves = []
    while place is not None:
        move = reached[place]
        moves.append((move[0], move[1], place))
        place = move[1]
    return moves


# As much is led as is wanted, as the quota at the end has left, and as there is to be led over on the way.
def lead(flows, left, wanted, moves):
    end = moves[0][2]
    there = [flows[entry][before] for entry, before, place in moves if before is not None]
    amount = min([wanted, left[end]] + there)
    for entry, before, place in moves:
        if before is not None:
            flows[entry][before] -= amount
        flows[entry][place] += amount
    left[end] -= amount
    return amount


# The nearest quota with something left is taken each time: so the tries are few, however great the weights.
# Where there is none, all that were reached are full, of entries that may draw on none but these: so they are the cut.
def serve(line, flows, left, entry):
    wanted = line[entry][1]
    while wanted > 0:
        reached = reached_by(line, flows, entry)
        ends = [place for place in reached if left[place] > 0]
        if len(ends) == 0:
            return sorted(reached)
        wanted -= lead(flows, left, wanted, moves_to(reached, ends[0]))
    return None


def route_of(flow):
    return [(place, amount) for place, amount in enumerate(flow) if amount > 0]


# Those ahead may be led otherwise later on, but keep what they were granted: so it is summed up at the end.
def served(rooms, line):
    left = list(rooms)
    flows = []
    cuts = []
    for entry in range(len(line)):
        flows.append([0] * len(rooms))
        cuts.append(serve(line, flows, left, entry))
    return ([sum(flow) for flow in flows], [route_of(flow) for flow in flows], cuts)
