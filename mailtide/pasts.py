"""The pasts of a folder: all the histories by which it can have come to be what it is."""


class Past:
    """What a folder tells of the changes that led to it, and what it leaves open.

    A state of a past is (came, went): how many letters have come, and how many have gone of which the going is not
    kept any more. Which ones of these have gone is left open: each of those that are there may be the next one.
    """

    def __init__(self, folder):
        self._many = folder.next_number() - 1
        self._final = folder.mark()
        self._trim = folder.cut()
        self._present = {number: (body, signs) for number, body, signs, _ in folder.letters()}
        # The last change of each letter of which it is known, and the other way round.
        self._ends = {letter[0]: letter[3] for letter in folder.letters()}
        for mark, number in folder.gone():
            self._ends[number] = mark
        self._owners = {mark: number for number, mark in self._ends.items()}
        # Of the letters up to each number: how many have gone at an unknown mark, and the last known change.
        self._lost_up_to = [0]
        self._ends_up_to = [0]
        for number in range(1, self._many + 1):
            is_lost = number not in self._ends
            self._lost_up_to.append(self._lost_up_to[-1] + (1 if is_lost else 0))
            self._ends_up_to.append(max(self._ends_up_to[-1], 0 if is_lost else self._ends[number]))
        self._possible = self._possible_states()

    def next_numbers(self, mark):
        """The ascending list of the next numbers that the folder can have had at this mark."""
        return sorted({came + 1 for came, _ in self._possible[mark]})

    def gone_since(self, mark):
        """The ascending list of the numbers that are not there any more, but can have been at this mark."""
        return [number for number in range(1, self._many + 1) if self._state_with(number, mark) is not None]

    def can_have_had(self, numbers, mark):
        """Whether the letters at this mark can have been just those with these numbers, which are ascending."""
        lost = [number for number in numbers if self._is_lost(number)]
        known = [number for number in numbers if not self._is_lost(number)]
        for came, went in self._states_at(mark, lost):
            if numbers and numbers[-1] > came or self._lost_up_to[came] - went != len(lost):
                continue
            if known == [number for number in range(1, came + 1) if self._is_known_at(number, mark)]:
                return True
        return False

    def history_with_fewest(self, mark):
        """A history to the folder by which the fewest letters have come by this mark."""
        return self._history(min(self._possible[mark]), mark, ())

    def history_with(self, number, mark):
        """A history by which a letter that is not there any more was there at this mark."""
        spared = (number,) if self._is_lost(number) else ()
        return self._history(self._state_with(number, mark), mark, spared)

    def _is_lost(self, number):
        """Whether the letter with this number has gone, and it is not kept when."""
        return number <= self._many and number not in self._ends

    def _is_known_at(self, number, mark):
        """Whether a letter that has come by this mark is known to have been there."""
        return number in self._present or not self._is_lost(number) and self._ends[number] > mark

    def _state_with(self, number, mark):
        """A state at this mark in which a letter is there that is not there any more, or None."""
        if number in self._present:
            return None
        if self._is_lost(number):
            states = self._states_at(mark, (number,)) if mark < self._trim else []
        else:
            states = self._possible[mark] if mark < self._ends[number] else []
        # With more letters come by then, this one has come, too.
        state = max(states, default=(0, 0))
        return state if state[0] >= number else None

    def _states_behind(self, state, mark, spared):
        """The states that the change with this mark can make of the one ahead; none of the spared lost letters goes."""
        came, went = state
        number = self._owners.get(mark)
        if number is not None:
            if number <= came:
                return [state]
            return [(number, went)] if number == came + 1 and number in self._present else []
        lost = self._lost_up_to[came] - went
        states = []
        # A letter can only be changed here if it is there, and something else is done to it later.
        if lost or self._ends_up_to[came] > mark:
            states.append(state)
        if came < self._many and self._ends.get(came + 1, mark + 1) > mark:
            states.append((came + 1, went))
        if mark <= self._trim and lost > len([each for each in spared if each <= came]):
            states.append((came, went + 1))
        return states

    def _layers(self, begin, first, last, spared):
        """For the mark first, with the state begin, and each one up to last: its states, each with one ahead of it."""
        layers = [{begin: None}]
        for mark in range(first + 1, last + 1):
            layer = {}
            for state in layers[-1]:
                for later in self._states_behind(state, mark, spared):
                    layer[later] = state
            layers.append(layer)
        return layers

    def _possible_states(self):
        """For each mark the list of the states from which the folder's own one can come."""
        layers = self._layers((0, 0), 0, self._final, ())
        possible = [[(self._many, self._lost_up_to[-1])]]
        for mark in range(self._final, 0, -1):
            later = {state: True for state in possible[-1]}
            rows = [(state, self._states_behind(state, mark, ())) for state in layers[mark - 1]]
            possible.append([state for state, behind in rows if any([each in later for each in behind])])
        return possible[::-1]

    def _states_at(self, mark, spared):
        """The possible states at this mark, if none of the spared letters has gone by then."""
        reached = self._layers((0, 0), 0, mark, spared)[-1]
        return [state for state in self._possible[mark] if state in reached]

    def _history(self, state, mark, spared):
        """A history that has this state at this mark, and the spared letters there."""
        end = (self._many, self._lost_up_to[-1])
        behind = _traced(self._layers(state, mark, self._final, ()), end)
        row = _traced(self._layers((0, 0), 0, mark, spared), state) + behind[1:]
        there = {}
        history = []
        for at in range(1, self._final + 1):
            history.append(self._deed(at, row[at - 1], row[at], there, spared if at <= mark else ()))
        if self._trim:
            history.append(("trim", self._trim))
        return history

    def _deed(self, mark, state, later, there, spared):
        """A deed for the change with this mark; there has the signs of the letters, and goes along with it."""
        number = self._changed_by(mark, state, later, there, spared)
        body, signs = self._present.get(number, (0, None))
        if later[1] > state[1] or self._ends.get(number) == mark and number not in self._present:
            del there[number]
            return ("remove", (number,))
        # Ahead of its last change a letter never has the signs that it has at last: each view shows the difference.
        there[number] = signs if self._ends.get(number) == mark else _signs_unlike(signs, there.get(number))
        if later[0] > state[0]:
            return ("append", body, there[number])
        return ("set", (number,), there[number])

    def _changed_by(self, mark, state, later, there, spared):
        """The number of a letter that the change with this mark can be of."""
        if later[0] > state[0]:
            return later[0]
        if mark in self._owners:
            return self._owners[mark]
        if later[1] > state[1]:
            return [number for number in there if self._is_lost(number) and number not in spared][0]
        return [number for number in there if self._ends.get(number, mark + 1) > mark][0]


def _traced(layers, state):
    """The row of states through the layers that ends with this one."""
    row = [state]
    for layer in layers[:0:-1]:
        row.append(layer[row[-1]])
    return row[::-1]


def _signs_unlike(signs, others):
    """Signs that are unlike these and those others."""
    return [some for some in ((), ("a",), ("b",)) if some not in (signs, others)][0]
