"""Plancalls: how often a plan calls a function."""
