"""Moors of places with counters, told exactly."""
