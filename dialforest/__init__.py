"""dialforest: removing dials from a rooted forest."""
