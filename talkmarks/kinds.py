"""What kind a thing is, asked of anything: the questions that all modules share."""


def is_whole(thing):
    # Python counts True and False among the ints; the document doesn't.
    return isinstance(thing, int) and not isinstance(thing, bool)


def is_whole_from(least, thing):
    return is_whole(thing) and thing >= least


def is_tuple_of(many, thing):
    return isinstance(thing, tuple) and len(thing) == many


def is_list_or_tuple(thing):
    return isinstance(thing, (list, tuple))


def is_rising(things):
    return all([things[k - 1] < things[k] for k in range(1, len(things))])
