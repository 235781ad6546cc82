"""Plain prices: which nights are free by a deal, and the bill of a stay."""

from stayprice.days import nights_of
from stayprice.errors import NotSold


# Of alike prices the later one comes first, for it is free first.
def cheapest_first(prices, places):
    return sorted(places, key=lambda place: (prices[place], -place))


def marked(prices, deal):
    marks = [False for price in prices]
    if deal is None:
        return marks
    bundle = []
    for place in range(len(prices)):
        bundle.append(place)
        if len(bundle) == deal[0]:
            for rank, other in enumerate(cheapest_first(prices, bundle)):
                marks[other] = rank < deal[1]
            bundle = []
    return marks


def night_prices(book, nights):
    prices = []
    for night in nights:
        price = book.tells_of("price", night)
        if price is None:
            raise NotSold(night)
        prices.append(price)
    return prices


def bill(book, stay):
    nights = nights_of(stay)
    prices = night_prices(book, nights)
    marks = marked(prices, book.tells_of("deal", stay[0]))
    fee = book.tells_of("fee", stay[0])
    rows = list(zip(nights, prices, marks))
    paid = sum([row[1] for row in rows if not row[2]])
    return (paid + fee, rows, fee)
