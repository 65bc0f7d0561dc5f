"""Group maps that are wrong at few places, and put right by votes."""
