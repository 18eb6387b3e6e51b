"""Vesselhall: stuffs in a vessel, and what their turnings keep, lead to and weigh."""
