"""Names, sayings, and whom a saying names."""

LONGEST_NAME = 8
LONGEST_SAYING = 60
FIRST_SIGN = 32
LAST_SIGN = 126


def is_letter(sign):
    return "a" <= sign <= "z"


def is_sign(sign):
    return FIRST_SIGN <= ord(sign) <= LAST_SIGN


def is_name(thing):
    if not isinstance(thing, str):
        return False
    return 1 <= len(thing) <= LONGEST_NAME and all([is_letter(sign) for sign in thing])


def is_saying(thing):
    if not isinstance(thing, str):
        return False
    return 1 <= len(thing) <= LONGEST_SAYING and all([is_sign(sign) for sign in thing])


def begins_with_name(text, name):
    # A slice, not an index: at the text's end it is empty, and that is no letter.
    behind = text[len(name):len(name) + 1]
    return text.startswith(name) and not is_letter(behind)


def is_named(saying, name):
    # No name holds an @, so each piece behind one can be looked at by itself.
    return any([begins_with_name(piece, name) for piece in saying.split("@")[1:]])


def names_in(saying, people):
    return [name for name in sorted(set(people)) if is_named(saying, name)]
