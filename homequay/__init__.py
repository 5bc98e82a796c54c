"""Homequay: bringing everybody home over a timetable, and once more when it breaks."""
