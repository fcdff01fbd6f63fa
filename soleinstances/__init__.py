"""One answer for every question about kinds. All is imported from the modules, nothing from here."""
