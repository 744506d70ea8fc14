"""What == tells of objects that are made in one book and in books made apart."""

from tests.webs import made_again


def check_equality(test, book, make, tables):
    """Test == and first_apart of the objects that make gives of a book and two tables; tell whether they are equal."""
    one, two = [make(book, table) for table in tables]
    before = [list(told.table.items()) for told in (one, two)]
    same = one == two
    for beside in (book, made_again(book)):
        again, changed = [make(beside, table) for table in tables]
        test.assertTrue(one == again and again == one and one == one)
        test.assertFalse(one != again or again != one)
        test.assertTrue(changed == two and two == changed)
        test.assertEqual([one == changed, changed == one, two == again, again == two], [same] * 4)
        test.assertIs(one.first_apart(changed) is None, same)
    # Whoever asks for == changes nothing.
    test.assertEqual([list(told.table.items()) for told in (one, two)], before)
    test.assertIs(one == two, same)
    return same
