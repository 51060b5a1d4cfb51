"""Cookie jars: lines, crumbs, and the rules by which they are kept and sent."""
