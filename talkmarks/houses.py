"""Houses: who has how many hands, and who is a member of which room."""

from talkmarks.errors import NoHouse, NoRoom
from talkmarks.kinds import is_list_or_tuple, is_rising, is_tuple_of, is_whole, is_whole_from
from talkmarks.names import is_name

MOST_PEOPLE = 4
MOST_HANDS = 3
MOST_ROOMS = 4


def firsts_of(pairs):
    return [pair[0] for pair in pairs]


def fits_person(thing):
    if not is_tuple_of(2, thing):
        return False
    return is_name(thing[0]) and is_whole_from(1, thing[1]) and thing[1] <= MOST_HANDS


def fit_people(thing):
    if not isinstance(thing, tuple) or not 1 <= len(thing) <= MOST_PEOPLE:
        return False
    return all([fits_person(pair) for pair in thing]) and is_rising(firsts_of(thing))


def fit_members(thing, names):
    if not isinstance(thing, tuple) or len(thing) == 0:
        return False
    return all([member in names for member in thing]) and is_rising(thing)


def fits_room(thing, names):
    return is_tuple_of(2, thing) and is_name(thing[0]) and fit_members(thing[1], names)


def fit_rooms(thing, names):
    if not isinstance(thing, tuple) or not 1 <= len(thing) <= MOST_ROOMS:
        return False
    return all([fits_room(pair, names) for pair in thing]) and is_rising(firsts_of(thing))


def is_house(thing):
    if not is_tuple_of(2, thing) or not fit_people(thing[0]):
        return False
    return fit_rooms(thing[1], firsts_of(thing[0]))


def are_names(thing):
    return is_list_or_tuple(thing) and all([is_name(name) for name in thing])


def pairs_by_name(things):
    # Only names are sorted: other things can't be put in order with one another.
    if not is_list_or_tuple(things) or not all([is_tuple_of(2, thing) for thing in things]):
        raise NoHouse("people and rooms are each a row of pairs")
    if not are_names(firsts_of(things)):
        raise NoHouse("each person and each room begins with a name")
    return tuple(sorted(things, key=lambda pair: pair[0]))


def room_with_members(pair):
    if not are_names(pair[1]):
        raise NoHouse("the members of a room are a row of names")
    return (pair[0], tuple(sorted(pair[1])))


def house_of(people, rooms):
    sorted_people = pairs_by_name(people)
    sorted_rooms = tuple([room_with_members(pair) for pair in pairs_by_name(rooms)])
    house = (sorted_people, sorted_rooms)
    if not is_house(house):
        raise NoHouse("these people and rooms make no house")
    return house


def many_of(house, name):
    for person, many in house[0]:
        if person == name:
            return many
    return 0


def is_person(house, thing):
    return thing in firsts_of(house[0])


def is_room(house, thing):
    return thing in firsts_of(house[1])


def is_hand(house, thing):
    return is_tuple_of(2, thing) and is_whole(thing[1]) and 0 <= thing[1] < many_of(house, thing[0])


def hands_of(house):
    hands = []
    for name, many in house[0]:
        hands.extend([(name, k) for k in range(many)])
    return hands


def rooms_of(house, name):
    return [pair[0] for pair in house[1] if name in pair[1]]


def members_of(house, room):
    for told, members in house[1]:
        if told == room:
            return members
    raise NoRoom("there is no such room in the house")
