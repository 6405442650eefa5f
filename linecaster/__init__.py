"""Linecaster: a machine that casts lines, and finds its matrices their way home."""
