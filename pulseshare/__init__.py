"""Pulseshare: shares told by pulses."""
