"""The events and the log of a watch as lines."""

from crewbook.crewtexts import set_text


def event_line(event):
    if event[0] == "widen":
        return f"widen {event[1]}"
    word, person, crew = event
    return f"{word} {person} {crew_word(crew)}"


def log_lines(log):
    return [watch_line(log[0])] + [event_line(event) for event in log[1:]]


def watch_line(start):
    _, crews, crew, width, kept = start
    words = ["watch", str(width), set_text(kept), set_text(crew)]
    return " ".join(words + [set_text(other) for other in crews])


def crew_word(crew):
    return "-" if crew is None else set_text(crew)
