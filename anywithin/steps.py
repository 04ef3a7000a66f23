"""Told steps: which records they name, and the same steps for other numbers."""


def numbers_named(step):
    """Tell the numbers of the records that a told step names."""
    return list(step[2]) if step[0] == "do" else [step[1]]


def led_over(step, led):
    """Tell a told step that names each record by the number to which its own one is led."""
    if step[0] == "do":
        return ("do", step[1], [led[number] for number in step[2]])
    return ("delete", led[step[1]])
