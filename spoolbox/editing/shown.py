"""What a presentation shows."""


def shown(presentation, start, stop=None):
    """Return for each track the units that are shown from `start` to before `stop`."""
    return [shown_units(units, start, stop) for _, _, units in presentation[2]]


def shown_units(units, start, stop):
    """Return the units of one track that are shown, with their times from `start` on."""
    rows = []
    for time, span, content, _ in units:
        if time + span > start and (stop is None or time < stop):
            rows.append((time - start, span, list(content)))
    return rows


def whole_show(presentation):
    """Return what is shown from the skip of the presentation on."""
    return shown(presentation, presentation[1])
