"""Jettison: what one gives up at sea is borne by all."""
