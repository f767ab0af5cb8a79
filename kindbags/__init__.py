"""Kindbags: papers that count what a program does."""
