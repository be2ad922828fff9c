"""The tests of pulseshare."""
