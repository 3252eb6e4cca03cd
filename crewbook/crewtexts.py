"""Sets and crews as texts."""


def set_text(people):
    return ",".join(people) if people else "-"


def crews_text(crews):
    return "\n".join(crew_lines(crews))


def crew_lines(crews):
    return [f"crew {set_text(crew)}" for crew in crews]
