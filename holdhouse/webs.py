"""Webs: the shapes of a house, looked at once for all that differ in the order of their lines alone.

No row tells the lines of a house apart. So what can happen at a shape can also happen at each shape with the same lines
in another order, and one of these *kin* stands for all of them: the one that is found first, under its number.
"""

from holdhouse.standings import in_order
from holdhouse.steps import Steps

# The orders of one, of two and of three lines; the plain one first.
ORDERS = (
    ((0,),),
    ((0, 1), (1, 0)),
    ((0, 1, 2), (0, 2, 1), (1, 0, 2), (1, 2, 0), (2, 0, 1), (2, 1, 0)),
)


class Web:
    """The shapes of a house that were looked at, and the steps between them."""

    def __init__(self, plan):
        self.plan = plan
        # For each shape the number of the one that stands for it, and the order of that one's lines in it.
        self.place_by_shape = {}
        # For each number the kin, the one that stands for all of them first.
        self.kin = []
        # For each number the facts of each line.
        self.facts = []
        self.steps = Steps(plan)

    def place_of(self, shape):
        """The number of the shape that stands for this one, and which line of it each line of this one is."""
        if shape not in self.place_by_shape:
            self.add_kin(shape)
        return self.place_by_shape[shape]

    def add_kin(self, shape):
        """Let this shape stand for all its kin."""
        number = len(self.kin)
        kin = []
        for order in ORDERS[len(shape[0]) - 1]:
            one = in_order(shape, order)
            if one not in self.place_by_shape:
                self.place_by_shape[one] = (number, order)
                kin.append(one)
        self.kin.append(kin)
        self.facts.append(self.plan.facts_at(shape))

    def steps_from(self, number, phones):
        """The steps from the shape with this number with so many phones, each with the place of the shape behind it."""
        found = self.steps.leading_on(self.kin[number][0], phones)
        for step in found:
            if step.place is None:
                step.place = self.place_of(step.shape_behind)
        return found

    def enough_phones(self, number):
        """With how many phones there are as many steps from the shape as with more of them."""
        return self.steps.full_from(self.kin[number][0])[1]
