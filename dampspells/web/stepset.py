"""Sets of steps."""

from dampspells.base.errors import BadSteps, TooLarge

MOST_STEP = 8


class StepSet:
    """The set of the given steps; `steps` is the ascending tuple of them."""

    def __init__(self, steps):
        if not steps or min(steps) < 1 or max(steps) > MOST_STEP:
            raise BadSteps(f"a step set has one or more steps from 1 to {MOST_STEP}")
        self.steps = tuple(sorted(set(steps)))

    @property
    def farthest(self):
        return self.steps[-1]

    def __iter__(self):
        return iter(self.steps)

    def __eq__(self, other):
        return isinstance(other, StepSet) and self.steps == other.steps

    def __contains__(self, step):
        return step in self.steps

    def __or__(self, other):
        return StepSet([*self.steps, *other.steps])

    @staticmethod
    def of(lacquer):
        """The step set of the lacquer."""
        if lacquer.b > MOST_STEP:
            raise TooLarge(f"a lacquer with a step of more than {MOST_STEP} hours has no step set")
        return StepSet(list(range(lacquer.a, lacquer.b + 1)))
