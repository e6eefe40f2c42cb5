"""Labelways: webs whose places bear labels from which ways are told."""
