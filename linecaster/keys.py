"""Keys: lines are written as a text of keys, and good keys are read back to lines."""

from linecaster.cases import channel_of
from linecaster.errors import NoKeys

GAP_KEY = " "
SEND_KEY = "/"


def keys_of(lines):
    return "".join([" ".join(line) + SEND_KEY for line in lines])


def is_sign_key(key):
    return key != GAP_KEY and key != SEND_KEY


def goes_on(case, keys, at):
    """Whether the key with this number can stand behind those ahead of it, which begin good keys."""
    if is_sign_key(keys[at]):
        return channel_of(case, keys[at]) is not None
    # A blank and a `/` both end a word, which has a sign at least.
    return at > 0 and is_sign_key(keys[at - 1])


def look_at_keys(case, keys):
    for at in range(len(keys)):
        if not goes_on(case, keys, at):
            raise NoKeys(at)
    if keys != "" and keys[-1] != SEND_KEY:
        raise NoKeys(len(keys))


def lines_of(case, keys):
    look_at_keys(case, keys)
    # Behind the last `/` no line stands, but a split tells one.
    return [line.split(GAP_KEY) for line in keys.split(SEND_KEY)[:-1]]
