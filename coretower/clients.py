"""Clients: the callers of an object, and which calls they make."""

from coretower.errors import BadClient, NoOperation
from coretower.kinds import is_name

MOST_CALLERS = 3
MOST_MENUS = 4
MOST_NAMES = 6


def once(*names):
    """The caller that calls each name once, in order."""
    return (tuple([(name,) for name in names]), False)


def always(*names):
    """The caller that may always call all of the names."""
    return ((names,), True)


def check_callers(client):
    """Raise unless this list of any values is a client."""
    if not client:
        raise BadClient(0)
    for at, caller in enumerate(client):
        if at == MOST_CALLERS or not is_caller(caller):
            raise BadClient(at)


def check_client(client, names):
    """Raise unless this list of any values is a client whose names are all among these."""
    check_callers(client)
    for menus, _ in client:
        for menu in menus:
            for name in menu:
                if name not in names:
                    raise NoOperation(name)


def is_caller(value):
    """Whether this, any value, is a caller."""
    if not isinstance(value, tuple) or len(value) != 2:
        return False
    menus, again = value
    if not isinstance(menus, tuple) or not isinstance(again, bool):
        return False
    return 1 <= len(menus) <= MOST_MENUS and all([is_menu(menu) for menu in menus])


def is_menu(value):
    """Whether this, any value, is a menu."""
    if not isinstance(value, tuple) or not 1 <= len(value) <= MOST_NAMES:
        return False
    return all([is_name(name) for name in value]) and len(set(value)) == len(value)


def menu_deeds(client):
    """For each caller and menu the ascending list of the calls that can be made; at last, for no more menu, none."""
    rows = []
    for caller, (menus, _) in enumerate(client):
        rows.append([[(caller, "call", name) for name in sorted(menu)] for menu in menus] + [[]])
    return rows


def menu_after(caller, menu):
    """The number of the menu that a caller goes on with."""
    menus, again = caller
    return (menu + 1) % len(menus) if again else menu + 1
