"""Oneofall: machines that play machines."""
