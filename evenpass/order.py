"""What a net does with rows of values, greater and lesser ones in the place of walkers."""

from evenpass.trials import rows_of


def put_in_order(net, values):
    now = list(values)
    for first, second in net[1]:
        greater = max(now[first], now[second])
        lesser = min(now[first], now[second])
        now[first] = greater
        now[second] = lesser
    return now


def falls(values):
    for ahead, value in zip(values, values[1:]):
        if value > ahead:
            return False
    return True


def orders(net):
    # A net that puts each row of 0 and 1 in order does so with each row of whatever values:
    # of those above a bound and the others it sees no more than that.
    for bits in rows_of([[0, 1]] * net[0]):
        if not falls(put_in_order(net, bits)):
            return ("not", bits)
    return ("orders",)
