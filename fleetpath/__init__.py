"""Fleetpath: the cars and drivers of a day."""
