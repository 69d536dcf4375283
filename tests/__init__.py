"""The tests of hueturns."""
