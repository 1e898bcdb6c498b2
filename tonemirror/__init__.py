"""Tonemirror: tones on a wheel, turned and mirrored."""
