"""Feastwheel: calendars and rules of days."""
