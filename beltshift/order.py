"""The order in which hands work at one bell."""


def work_order(room):
    """All hands, next always the least that takes, over belts without trays, from hands ahead of it alone."""
    hands, belts = room
    loose = [(giver, taker) for giver, taker, things in belts if not things]
    owed = [0] * len(hands)
    for giver, taker in loose:
        owed[taker] += 1
    left = list(range(len(hands)))
    order = []
    while left:
        ready = min([hand for hand in left if owed[hand] == 0])
        left.remove(ready)
        order.append(ready)
        for giver, taker in loose:
            if giver == ready:
                owed[taker] -= 1
    return order
