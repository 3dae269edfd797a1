"""The texts of lacquers, climates and weathers."""
