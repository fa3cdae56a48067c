"""Changes: what leads from one list of bytes to another one."""

from spoolbox.errors import BadChange


def change(old, new):
    """Return the front, the back and the middle of the change from one list to another one."""
    least = min(len(old), len(new))
    front = 0
    while front < least and old[front] == new[front]:
        front += 1
    back = 0
    # A byte that the front holds is not held by the back once more.
    while back < least - front and old[-1 - back] == new[-1 - back]:
        back += 1
    return (front, back, new[front:len(new) - back])


def changed(old, parts):
    """Return the list to which a change leads from an old list."""
    front, back, middle = parts
    if front + back > len(old):
        raise BadChange(0)
    new = old[:front] + middle + old[len(old) - back:]
    if change(old, new) != (front, back, middle):
        raise BadChange(1)
    return new
