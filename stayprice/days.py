"""Days, stretches of days, stays, and lists of stretches."""

LAST_DAY = 1000000
MOST_NIGHTS = 14


# True and False are ints to Python, but no whole numbers here.
def is_whole(thing):
    return isinstance(thing, int) and not isinstance(thing, bool)


def is_whole_within(thing, lowest, highest):
    return is_whole(thing) and lowest <= thing <= highest


def is_pair(thing):
    return isinstance(thing, tuple) and len(thing) == 2


def is_day(thing):
    return is_whole_within(thing, 0, LAST_DAY)


def is_pair_of_days(thing):
    return is_pair(thing) and is_day(thing[0]) and is_day(thing[1])


def is_stretch(thing):
    return is_pair_of_days(thing) and thing[0] <= thing[1]


def is_stay(thing):
    return is_pair_of_days(thing) and 1 <= thing[1] - thing[0] <= MOST_NIGHTS


def nights_of(stay):
    return list(range(stay[0], stay[1]))


def has_day(stretches, day):
    return any([stretch[0] <= day <= stretch[1] for stretch in stretches])


def spread(stretches):
    rising = []
    for stretch in sorted(stretches):
        # A stretch that begins right behind another one is joined to it too,
        # for no day lies between them.
        if rising and stretch[0] <= rising[-1][1] + 1:
            rising[-1] = (rising[-1][0], max(rising[-1][1], stretch[1]))
        else:
            rising.append(stretch)
    return rising


# Days taken out of a spread list leave a spread list: whatever is parted
# anew has at least one day of the gone stretch between.
def without(rising, gone):
    left = []
    for stretch in rising:
        if stretch[0] < gone[0]:
            left.append((stretch[0], min(stretch[1], gone[0] - 1)))
        if gone[1] < stretch[1]:
            left.append((max(stretch[0], gone[1] + 1), stretch[1]))
    return left


def less(stretches, others):
    left = spread(stretches)
    for gone in others:
        left = without(left, gone)
    return left
