"""How the machine of a saying is made of those of its parts, alike for rows and for trees."""


def maker(bare_of, fitting_of, met, joined, flipped, dropped):
    """The function that makes the machine of a saying that is let in a frame, by what these tell of its parts."""

    def machine_of(saying, frame):
        word = saying[0]
        if word == "and":
            return met(machine_of(saying[1], frame), machine_of(saying[2], frame))
        if word == "or":
            return joined(machine_of(saying[1], frame), machine_of(saying[2], frame))
        if word == "not":
            return met(flipped(machine_of(saying[1], frame)), fitting_of(frame))
        if word == "some":
            return dropped(machine_of(saying[2], frame + [saying[1]]), len(frame))
        if word == "all":
            return machine_of(("not", ("some", saying[1], ("not", saying[2]))), frame)
        return bare_of(saying, frame)

    return machine_of
