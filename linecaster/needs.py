"""The need: how many matrices of each channel are out of it at once where no key ever waits for one."""

from linecaster.machine import Machine


def free_case(case, keys):
    return [(sign, width, teeth, keys.count(sign)) for sign, width, teeth, many in case]


def numbers_out(free, machine):
    # By right codes no other matrix lies in a channel, so what lacks there is what is out of its own ones.
    return [channel[3] - lying for channel, lying in zip(free, machine.numbers_lying())]


def needs_and_peaks(case, keys, casting):
    free = free_case(case, keys)
    machine = Machine(free, keys, casting)
    needs = [0] * len(case)
    peaks = [0] * len(case)
    while machine.tick():
        for channel, out in enumerate(numbers_out(free, machine)):
            if out > needs[channel]:
                needs[channel] = out
                peaks[channel] = machine.ticks()
    return (needs, peaks)


def need_of(case, keys, casting):
    needs, peaks = needs_and_peaks(case, keys, casting)
    return needs


def peaks_of(case, keys, casting):
    needs, peaks = needs_and_peaks(case, keys, casting)
    return peaks
