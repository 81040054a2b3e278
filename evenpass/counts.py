"""What comes out of a net on each lane, reckoned from what comes in."""


def let_through(net, counts):
    now = list(counts)
    odd = []
    for number, wicket in enumerate(net[1]):
        both = now[wicket[0]] + now[wicket[1]]
        # // rounds down below 0 too, so of -3 these are -1 and -2.
        now[wicket[0]] = (both + 1) // 2
        now[wicket[1]] = both // 2
        if both % 2 == 1:
            odd.append(number)
    return (now, odd)


def exits(net, counts):
    return let_through(net, counts)[0]


def odd_ones(net, counts):
    return let_through(net, counts)[1]
