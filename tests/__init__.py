"""The tests of the package fifthhost."""
