"""Ticks: the way from the shape of a moment to the shape of the next one."""

from hushkernel.effects import make_call
from hushkernel.kernels import Kernel
from hushkernel.turns import turn_now


def opened(rules, shape, letter):
    """The kernel in the midst of the tick, up to the call of the task that has its turn."""
    kernel = Kernel(rules, shape)
    if letter is not None:
        kernel.receive(rules.letter_port, letter)
    kernel.sleep_on()
    if kernel.busy > 0:
        kernel.busy -= 1
    if kernel.busy == 0:
        kernel.turn = turn_now(kernel)
    return kernel


def finished(kernel, call):
    """The shape behind the tick with a call (None without a turn); the opened kernel stays as it is."""
    after = Kernel(kernel.rules, kernel.shape())
    after.turn = kernel.turn
    if after.turn is not None:
        make_call(after, call)
    after.phase = (after.phase + 1) % after.rules.period
    return after.shape()


def letters_now(rules, shape):
    """What may come from outside in the next tick: nothing, or a letter."""
    phase = shape[-1][-1]
    return [None, 0, 1] if rules.may_come(phase) else [None]
