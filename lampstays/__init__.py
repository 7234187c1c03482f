"""Lampstays: what the logs of lamps tell about motions."""
