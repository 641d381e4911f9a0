"""Roundminutes: leading one periodic timetable into another, minute by minute."""
