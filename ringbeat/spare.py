"""What one going may spare for another: the least slack of a way between them."""

from ringbeat.nets import way_back


# prices and chosen are moved on in place. No slack is below 0, and a price only ever falls, so no chosen arrows close
# a ring.
def lower_once(table, prices, chosen):
    lowered = False
    for number, arrow in enumerate(table.net.arrows):
        if prices[arrow.start] is not None:
            price = prices[arrow.start] + table.slack(number)
            if prices[arrow.goal] is None or price < prices[arrow.goal]:
                prices[arrow.goal] = price
                chosen[arrow.goal] = number
                lowered = True
    return lowered


def spare(table, one, other):
    prices = [None] * len(table.net.names)
    prices[one] = 0
    chosen = {}
    while lower_once(table, prices, chosen):
        pass
    if prices[other] is None:
        return None
    return (prices[other], way_back(table.net.arrows, chosen, one, other), prices)
