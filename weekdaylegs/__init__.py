"""Weekdaylegs: diaries that note weekdays only."""
