"""Volumemend: a volume of numbers, and a mender that makes any numbers sound."""
