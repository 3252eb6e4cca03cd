import unittest

from crewbook.crewtexts import crews_text, set_text
from tests.samples import PAIRS


class TestCrewTexts(unittest.TestCase):
    def test_sets(self):
        self.assertEqual(set_text(()), '-')
        self.assertEqual(set_text(('a',)), 'a')
        self.assertEqual(set_text(('a', 'abcdefgh', 'b')), 'a,abcdefgh,b')
        self.assertEqual(set_text(people=('m', 'n')), 'm,n')

    def test_crews(self):
        self.assertEqual(crews_text((('a',),)), 'crew a')
        self.assertEqual(crews_text(PAIRS), 'crew m,n\ncrew m,p\ncrew m,q\ncrew n,q\ncrew q,r')
        self.assertEqual(crews_text(crews=(('a', 'b'), ('c',))), 'crew a,b\ncrew c')

    def test_an_empty_set_among_crews(self):
        self.assertEqual(crews_text(((), ('a',))), 'crew -\ncrew a')


if __name__ == '__main__':
    unittest.main()
