"""Dealing: a room for each stay, as few rooms as can be."""


def first_free(ends, day):
    for room, end in enumerate(ends):
        if end <= day:
            return room
    return len(ends)


# The stays are dealt as they come: a further room is begun only where each one
# so far has a stay on that very night, so there are never more rooms than the
# fullest night has stays.
def dealt(stays):
    rooms = [0 for stay in stays]
    ends = []
    for stay, place in sorted([(stay, place) for place, stay in enumerate(stays)]):
        room = first_free(ends, stay[0])
        rooms[place] = room
        ends = ends[:room] + [stay[1]] + ends[room + 1:]
    return rooms
