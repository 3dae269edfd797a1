"""Writes lacquers, climates and weathers."""


def write_lacquer(lacquer):
    """As `4-5`."""
    return f"{lacquer.a}-{lacquer.b}"


def write_climate(climate):
    """The plain list as `2/5+4/9`, or `dry`."""
    if not climate.kinds:
        return "dry"
    return "+".join([f"{w}/{g}" for w, g in climate])


def write_weather(weather):
    """The lengths of the runs and spells in turn, as `5,2,5`."""
    return ",".join([str(length) for length in weather])
