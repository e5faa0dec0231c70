"""Switchkinds: kinds of switch functions."""
