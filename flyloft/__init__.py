"""Flyloft: bars, plates and brakes above a stage."""
