"""The errors that the program raises."""


class DampError(ValueError):
    """The base class of all errors that the program raises."""


class BadRatio(DampError):
    """A fraction with the bottom 0."""


class BadLacquer(DampError):
    """Numbers that are not those of a lacquer."""


class BadKind(DampError):
    """A pair that is not a kind, or too many of them."""


class BadWeather(DampError):
    """Lengths or signs that are not those of a weather."""


class BadHour(DampError):
    """An hour that is out of its bounds."""


class BadNumber(DampError):
    """A number that is out of its bounds."""


class BadRow(DampError):
    """A list of hours that is not as required."""


class BadSteps(DampError):
    """Numbers that are not those of a step set."""


class BadHabit(DampError):
    """A sight or rows that are not those of a habit."""


class BadPrice(DampError):
    """A price that is out of its bounds, or too many or too few of them."""


class BadDiary(DampError):
    """Marks that are not those of a diary."""


class BadReport(DampError):
    """The number of a report that does not stand."""


class TooLarge(DampError):
    """A question beyond the sizes that are answered."""


class NoWorld(DampError):
    """No world fits the diary."""


class BadText(DampError):
    """A text without the required form.

    `at` is the number of characters of its longest beginning that can still become a text of the form.
    """

    def __init__(self, at):
        super().__init__(f"the text has no longer the required form after {at} characters")
        self.at = at


class Unsound(DampError):
    """A climate that is not sound for the lacquer; `kind` is its first bad kind."""

    def __init__(self, kind):
        super().__init__(f"the kind {kind} is bad for the lacquer")
        self.kind = kind


class Strange(DampError):
    """A weather that is not of the climate; `hour` is its breach."""

    def __init__(self, hour):
        super().__init__(f"the first {hour} hours are not a weather of the climate")
        self.hour = hour


class Spoilt(DampError):
    """A spoilt weather; `hour` is its spoilt hour."""

    def __init__(self, hour):
        super().__init__(f"the first {hour} hours are spoilt")
        self.hour = hour


class Clash(DampError):
    """Marks that allow no common letter; `hour` is the first such hour."""

    def __init__(self, hour):
        super().__init__(f"no letter is allowed for hour {hour}")
        self.hour = hour


class Refused(DampError):
    """A deed that a desk refuses; `why` is the first reason that applies."""

    def __init__(self, why):
        super().__init__(f"the deed is refused: {why}")
        self.why = why
