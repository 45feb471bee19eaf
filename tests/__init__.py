"""The tests of the package ownwords."""
