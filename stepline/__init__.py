"""Stepline: functions by steps on a line."""
