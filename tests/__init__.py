"""Tests of the package partnotes."""
