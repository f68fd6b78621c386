"""The tests of Manypanes."""
