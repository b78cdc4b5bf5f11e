"""How tests ask for a refusal."""


class Refusing:
    """Asks a call for the very refusal and the value that is told with it."""

    def refused(self, refusal, what, call, *args, **named):
        with self.assertRaises(refusal) as caught:
            call(*args, **named)
        self.assertIs(type(caught.exception), refusal)
        self.assertEqual(caught.exception.what, what)
        self.assertIs(type(caught.exception.what), type(what))
