"""A reference model of a watch, written for the tests alone: it begins anew from its events for each report."""

from tests.samples import are_crews, left_in, people_in, remembered, without_one


class Refused(Exception):
    """An operation of the model is refused with an error of the package, by its name and its fields."""

    def __init__(self, name, *fields):
        self.name = name
        self.fields = fields


def is_name(thing):
    return isinstance(thing, str) and 0 < len(thing) < 9 and all(letter in 'abcdefghijklmnopqrstuvwxyz' for letter in thing)


def is_crew(thing):
    if not isinstance(thing, tuple) or not thing or not all(map(is_name, thing)):
        return False
    return list(thing) == sorted(set(thing))


def is_event(thing):
    if not isinstance(thing, tuple):
        return False
    if len(thing) == 2 and isinstance(thing[0], str):
        return thing[0] == 'widen' and isinstance(thing[1], int) and not isinstance(thing[1], bool) and thing[1] >= 0
    if len(thing) != 3 or not isinstance(thing[0], str) or thing[0] not in ('lose', 'back'):
        return False
    return is_name(thing[1]) and (thing[2] is None or is_crew(thing[2]))


class Model:
    def __init__(self, crews, crew, width=1, kept=()):
        assert are_crews(list(crews)) and crew in crews
        self.crews = crews
        self.first = crew
        self.first_width = width
        self.kept = kept
        self.events = []
        self.operations = 0

    def situations(self, events):
        """Return the list of (present, crew, width) before the first event and after each one."""
        found = [(people_in(self.crews), self.first, self.first_width)]
        for many, event in enumerate(events):
            found.append(self.after(found[-1], event, many))
        return found

    def after(self, situation, event, many):
        present, crew, width = situation
        if not is_event(event):
            raise Refused('InvalidEvent', event, 'shape')
        if event[0] != 'widen':
            for person in (event[1],) + (event[2] or ()):
                if person not in people_in(self.crews):
                    raise Refused('UnknownPerson', person)
        if many >= 60:
            raise Refused('InvalidEvent', event, 'full')
        if event[0] == 'widen':
            return present, crew, event[1]
        return (self.after_loss if event[0] == 'lose' else self.after_return)(situation, event)

    def after_loss(self, situation, event):
        present, crew, width = situation
        _, person, answer = event
        rest = without_one(present, person)
        left = left_in(self.crews, rest)
        if person not in present:
            raise Refused('InvalidEvent', event, 'absent')
        if person in self.kept:
            raise Refused('InvalidEvent', event, 'kept')
        if crew is not None and person in crew and left:
            answers = [other for other in left if len(set(other) - set(crew)) <= width]
            if not answers:
                raise Refused('InvalidEvent', event, 'stuck')
            if answer not in answers:
                raise Refused('InvalidEvent', event, 'answer')
            return rest, answer, width
        if answer is not None:
            raise Refused('InvalidEvent', event, 'answer')
        return rest, None if crew is None or person in crew else crew, width

    def after_return(self, situation, event):
        present, crew, width = situation
        _, person, taker = event
        if person in present:
            raise Refused('InvalidEvent', event, 'present')
        people = tuple(sorted(present + (person,)))
        left = left_in(self.crews, people)
        if crew is None and left:
            if taker not in left:
                raise Refused('InvalidEvent', event, 'answer')
            return people, taker, width
        if taker is not None:
            raise Refused('InvalidEvent', event, 'answer')
        return people, crew, width

    def now(self):
        return self.situations(self.events)[-1]

    def holds(self, situation, which):
        """Return whether a situation is calm (0) or careless (1)."""
        present, crew, width = situation
        return crew is None or bool(remembered(self.crews, width, self.kept)[which](present, crew))

    def judge(self):
        calm = [self.holds(situation, 0) for situation in self.situations(self.events)]
        return calm.index(False) - 1 if calm[0] and False in calm else None

    def advices(self, person):
        """Return the list of all right results of advice."""
        present, crew, width = self.now()
        if person not in people_in(self.crews):
            raise Refused('UnknownPerson', person)
        if person not in present:
            raise Refused('InvalidEvent', ('lose', person, None), 'absent')
        if person in self.kept:
            raise Refused('InvalidEvent', ('lose', person, None), 'kept')
        rest = without_one(present, person)
        left = left_in(self.crews, rest)
        if crew is None or not left:
            return ['over']
        if person not in crew:
            return ['stays']
        answers = [other for other in left if len(set(other) - set(crew)) <= width]
        return [other for other in answers if self.holds((rest, other, width), 0)] or [None]

    def go(self, event):
        self.operations += 1
        self.situations(self.events + [event])
        self.events.append(event)
        return self.now()[1]

    def set_width(self, value):
        if not is_event(('widen', value)):
            self.operations += 1
            raise Refused('InvalidWidth', value)
        self.go(('widen', value))
        return value

    def undo(self):
        self.operations += 1
        if not self.events:
            raise Refused('NothingToUndo', 0)
        return self.events.pop()

    def do_all(self, *events, keep=False):
        self.operations += 1
        for many in range(len(events)):
            try:
                self.situations(self.events + list(events[:many + 1]))
            except Refused:
                self.events += events[:many] if keep else []
                raise
        self.events += events
        return len(events)

    def tried(self, *events):
        return tuple(found[:2] for found in self.situations(self.events + list(events))[len(self.events) + 1:])

    def log(self):
        return (('watch', self.crews, self.first, self.first_width, self.kept),) + tuple(self.events)

    def text(self):
        return ' / '.join(map(event_text, self.events)) or '-'


def event_text(event):
    if event[0] == 'widen':
        return 'widen ' + str(event[1])
    return event[0] + ' ' + event[1] + ' ' + ','.join(event[2] or '-')
