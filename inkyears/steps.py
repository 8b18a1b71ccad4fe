"""The steps of a heap: what each saying, and the span of the archive, tells of how late a letter can be."""


def saying_steps(saying, number):
    letters = saying.about()
    bounds = saying.bounds()
    other = letters[1] if len(letters) == 2 else None
    steps = []
    if bounds[1] is not None:
        steps.append((other, letters[0], bounds[1], number))
    if bounds[0] is not None:
        steps.append((letters[0], other, 0 - bounds[0], number))
    return steps


def span_steps(archive, letter):
    return [(None, letter, archive.present, None), (letter, None, 0 - archive.first, None)]


def steps_of(archive, sayings):
    steps = []
    for number, saying in enumerate(sayings):
        steps.extend(saying_steps(saying, number))
    for letter in range(len(archive.letters)):
        steps.extend(span_steps(archive, letter))
    return steps


def steps_without(archive, sayings, numbers):
    # Left out here and not from the sayings, the others keep the numbers that they have in the whole heap.
    return [step for step in steps_of(archive, sayings) if step[3] not in numbers]
