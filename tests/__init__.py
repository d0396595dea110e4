"""Tests of evenslices."""
