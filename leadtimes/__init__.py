"""Leadtimes: runners on lines, who leads when, and papers that show it."""
