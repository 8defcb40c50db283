"""Travellers: places that move through an atlas, which may change, with all that they did."""

from slotmaps.atlases import checked_maps
from slotmaps.between import cost_between
from slotmaps.checks import is_index
from slotmaps.errors import BadAddress, BadEdit, BadPlace, BadStep, NoRoute, NothingToDo
from slotmaps.places import MOST_INDEXES, check_place, is_place, steps_from
from slotmaps.replacing import with_edge, with_slot, without_edge


class Traveller:
    """A traveller at a place. A state is (atlas, place, what was spent); each action in effect has led to one."""

    def __init__(self, atlas, root, place):
        check_place(checked_maps(atlas, root), root, place)
        self.root = root
        self.actions = []
        self.states = [(atlas, place, 0)]
        # Pairs (action, state), of which the last one was reverted last.
        self.reverted = []

    def move(self, target):
        """Go to a place at the least cost."""
        atlas, place, total = self.states[-1]
        cost = cost_between(atlas, self.root, place, target)
        if cost is None:
            raise NoRoute()
        self.perform(("move", target), (atlas, target, total + cost))

    def step(self, n):
        """Follow a step that leaves the current place."""
        atlas, place, total = self.states[-1]
        steps = steps_from(atlas, self.root, place)
        if not is_index(n, len(steps)):
            raise BadStep()
        target, cost = steps[n]
        if len(target[0]) > MOST_INDEXES:
            raise BadAddress()
        self.perform(("step", n), (atlas, target, total + cost))

    def change(self, edit):
        """Change the atlas."""
        atlas, place, total = self.states[-1]
        changed = edited(atlas, edit)
        if not is_place(changed, self.root, place):
            raise BadPlace()
        self.perform(("change", edit), (changed, place, total))

    def perform(self, action, state):
        """Put an action into effect that leads to a state."""
        self.actions.append(action)
        self.states.append(state)
        self.reverted = []

    def undo(self):
        """Revert the last action."""
        if not self.actions:
            raise NothingToDo()
        self.reverted.append((self.actions.pop(), self.states.pop()))

    def redo(self):
        """Perform the action again that was reverted last."""
        if not self.reverted:
            raise NothingToDo()
        action, state = self.reverted.pop()
        self.actions.append(action)
        self.states.append(state)

    def here(self):
        """Return the current place."""
        return self.states[-1][1]

    def spent(self):
        """Return the total cost of the moves and steps in effect."""
        return self.states[-1][2]

    def current_atlas(self):
        """Return the current atlas."""
        return self.states[-1][0]

    def history(self):
        """Return the actions in effect, in order."""
        return list(self.actions)

    def clone(self):
        """Return a traveller of its own in the same state, with the same actions in effect and to redo."""
        atlas, place, _ = self.states[0]
        twin = Traveller(atlas, self.root, place)
        twin.actions = list(self.actions)
        twin.states = list(self.states)
        twin.reverted = list(self.reverted)
        return twin


def edited(atlas, edit):
    """Return the atlas with a change, which is a tuple of a word and the arguments behind the atlas."""
    size = len(edit) if isinstance(edit, tuple) else 0
    if size == 5 and edit[0] == "edge":
        _, name, source, target, cost = edit
        return with_edge(atlas, name, source, target, cost)
    if size == 4 and edit[0] == "cut":
        _, name, source, target = edit
        return without_edge(atlas, name, source, target)
    if size == 4 and edit[0] == "slot":
        _, name, s, other = edit
        return with_slot(atlas, name, s, other)
    raise BadEdit()
