"""Canonwheel: beats that fill a wheel."""
