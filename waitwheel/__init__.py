"""Waitwheel: deeds that wait for one another, round after round."""
