"""Many weathers, and weathers that go on for ever."""
