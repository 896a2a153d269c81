"""Eacharm: one check of a program with choices is the check of all its programs."""
