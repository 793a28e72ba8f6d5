"""Grassnake: a small language read by its indents, run by its trees and as rows."""
