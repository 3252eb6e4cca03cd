"""Crewbook: crews that take over from each other when people fall out."""
