"""Hollowrise: hollows raised on a stepped field."""
