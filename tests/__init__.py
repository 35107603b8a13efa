"""The tests of fadinginks."""
