"""Evenslices: time slices by shares."""
