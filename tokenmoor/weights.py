"""Weights of places: balances and falling weights."""

from tokenmoor.moors import change


def weigh(weights, counts):
    return sum([weight * number for weight, number in zip(weights, counts)])


def weighed_changes(moves, weights):
    return [weigh(weights, change(move)) for move in moves]


def is_balance(moves, weights):
    return all([moved == 0 for moved in weighed_changes(moves, weights)])


def is_falling(moves, weights):
    return all([weight >= 0 for weight in weights]) and all([moved <= 0 for moved in weighed_changes(moves, weights)])
