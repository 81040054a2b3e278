"""How many wickets of a net lie one behind the other."""


def layers(net):
    # Along a lane the layers rise, so of those ahead only the last wicket on each lane matters.
    reached = [0] * net[0]
    found = []
    for first, second in net[1]:
        layer = 1 + max(reached[first], reached[second])
        reached[first] = layer
        reached[second] = layer
        found.append(layer)
    return found


def depth(net):
    return max(layers(net), default=0)


def have_common_lane(one, other):
    return one[0] in other or one[1] in other


def longest(net):
    wickets = net[1]
    layer_of = layers(net)
    wanted = depth(net)
    way = []
    # From the deepest wicket to the front: each one has a fitting wicket ahead of it,
    # while not each one has a fitting wicket behind it.
    for number in range(len(wickets) - 1, -1, -1):
        if layer_of[number] != wanted:
            continue
        if not way or have_common_lane(wickets[number], wickets[way[-1]]):
            way.append(number)
            wanted -= 1
    return list(reversed(way))


def depth_power(net):
    # 2 ** depth, the least number that halves at each wicket of every way without a remainder.
    power = 1
    for level in range(depth(net)):
        power *= 2
    return power
