"""Whyfacts: facts by rules, and the reasons of each."""
