"""Onewalls: the cheapest walls of a net, told by one tree."""
