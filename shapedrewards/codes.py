"""The error codes."""

NO_PROCESS = -11
NOT_THERE = -2
OUT_OF_LIMITS = -22
TOO_LARGE = -75
