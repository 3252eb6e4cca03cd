"""The tests of crewbook."""
