"""Rules over logs that more events never undo."""
