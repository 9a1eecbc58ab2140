"""Wrapcount: flows through pipes whose meters have wrapped around."""
