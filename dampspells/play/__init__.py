"""Workers who see some hours ahead."""
