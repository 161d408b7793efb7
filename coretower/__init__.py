"""Coretower: objects on a machine of many cores, as a tower of rungs that answer alike."""
