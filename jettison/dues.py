"""Who pays whom."""


def payments(changes):
    """Tuples (giver, taker, coins) by which to each name come the coins of its change."""
    giving = [(name, -coins) for name, coins in changes if coins < 0]
    taking = [(name, coins) for name, coins in changes if coins > 0]
    paid = []
    to = 0
    for giver, left in giving:
        while left > 0:
            taker, wanted = taking[to]
            coins = min(left, wanted)
            paid.append((giver, taker, coins))
            left -= coins
            taking[to] = (taker, wanted - coins)
            if wanted == coins:
                to += 1
    return paid
