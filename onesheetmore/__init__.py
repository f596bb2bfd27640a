"""Onesheetmore: pieces from sheets, by sizes that divide one another."""
