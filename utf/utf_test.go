package utf_test

import (
	"slices"
	"strings"
	"testing"

	"strainer/utf"
)

// first is the character that begins b and how many bytes it takes, by the bits of UTF-8 alone: what the package is held against.
func first(b []byte) (rune, int) {
	size, least, r := 0, rune(0), rune(0)
	switch c := b[0]; {
	case c < 0x80:
		return rune(c), 1
	case c>>5 == 0b110:
		size, least, r = 2, 0x80, rune(c&0x1f)
	case c>>4 == 0b1110:
		size, least, r = 3, 0x800, rune(c&0xf)
	case c>>3 == 0b11110:
		size, least, r = 4, 0x10000, rune(c&7)
	}
	if size == 0 || len(b) < size {
		return 65533, 1
	}
	for _, c := range b[1:size] {
		if c>>6 != 0b10 {
			return 65533, 1
		}
		r = r<<6 | rune(c&0x3f)
	}
	if r < least || 55296 <= r && r <= 57343 || r > 1114111 {
		return 65533, 1
	}
	return r, size
}

// runes is b's characters, and whether its bytes are UTF-8 throughout.
func runes(b []byte) ([]rune, bool) {
	var l []rune
	clean := true
	for len(b) > 0 {
		r, n := first(b)
		clean = clean && (r != 65533 || n == 3)
		l, b = append(l, r), b[n:]
	}
	return l, clean
}

// right is characters made right, one rule behind the other.
func right(l []rune) []rune {
	var out []rune
	for i, r := range l {
		if r == 10 && i > 0 && l[i-1] == 13 {
			continue
		}
		switch r {
		case 13:
			r = 10
		case 0:
			r = 65533
		}
		out = append(out, r)
	}
	return out
}

// edges are the bytes at which UTF-8's forms, lines' ends and letters change.
var edges = []byte{0, 9, 10, 13, 'A', 'z', 0x7f, 0x80, 0x8f, 0x90, 0x9f, 0xa0, 0xbf, 0xc0, 0xc1, 0xc2, 0xdf, 0xe0, 0xed, 0xee, 0xef, 0xf0, 0xf3, 0xf4, 0xf5, 0xf8, 0xff}

// samples yields every row of one or two bytes, and every one of three or four edges.
func samples(yield func([]byte) bool) {
	for i := range 256 {
		if !yield([]byte{byte(i)}) {
			return
		}
	}
	for i := range 256 * 256 {
		if !yield([]byte{byte(i >> 8), byte(i)}) {
			return
		}
	}
	for _, a := range edges {
		for _, b := range edges {
			for _, c := range edges {
				if !yield([]byte{a, b, c}) {
					return
				}
				for _, d := range edges {
					if !yield([]byte{a, b, c, d}) {
						return
					}
				}
			}
		}
	}
}

// P1.1: Runes.
func TestRunes(t *testing.T) {
	for _, x := range []struct {
		what, b string
		want    []rune
	}{
		{"nothing", "", nil},
		{"letters", "aZ~", []rune{'a', 'Z', '~'}},
		{"one to four bytes", "a\xc3\xa9\xe2\x82\xac\xf0\x9f\x98\x80", []rune{'a', 233, 8364, 128512}},
		{"13, 10 and 0 as they are", "\r\n\r\x00", []rune{13, 10, 13, 0}},
		{"65533 itself", "\xef\xbf\xbd", []rune{65533}},
		{"the least and the greatest of each length", "\x00\x7f\xc2\x80\xdf\xbf\xe0\xa0\x80\xef\xbf\xbf\xf0\x90\x80\x80\xf4\x8f\xbf\xbf", []rune{0, 0x7f, 0x80, 0x7ff, 0x800, 0xffff, 0x10000, 1114111}},
		{"beside 55296 to 57343", "\xed\x9f\xbf\xee\x80\x80", []rune{55295, 57344}},
		{"55296", "\xed\xa0\x80", []rune{65533, 65533, 65533}},
		{"57343", "\xed\xbf\xbf", []rune{65533, 65533, 65533}},
		{"two halves", "\xed\xa0\xbd\xed\xb8\x80", []rune{65533, 65533, 65533, 65533, 65533, 65533}},
		{"above 1114111", "\xf4\x90\x80\x80", []rune{65533, 65533, 65533, 65533}},
		{"far above", "\xf7\xbf\xbf\xbf", []rune{65533, 65533, 65533, 65533}},
		{"five and six bytes", "\xf8\x88\x80\x80\x80\xfc\x84\x80\x80\x80\x80", slices.Repeat([]rune{65533}, 11)},
		{"no beginning", "\x80\xbf\xfe\xff", []rune{65533, 65533, 65533, 65533}},
		{"too many bytes: 0", "\xc0\x80\xe0\x80\x80\xf0\x80\x80\x80", slices.Repeat([]rune{65533}, 9)},
		{"too many bytes: /", "\xc0\xaf\xe0\x80\xaf\xf0\x80\x80\xaf", slices.Repeat([]rune{65533}, 9)},
		{"too many bytes: the greatest", "\xc1\xbf\xe0\x9f\xbf\xf0\x8f\xbf\xbf", slices.Repeat([]rune{65533}, 9)},
		{"does not go on: the end", "\xc3", []rune{65533}},
		{"does not go on: the end behind two", "\xe2\x82", []rune{65533, 65533}},
		{"does not go on: the end behind three", "\xf0\x9f\x98", []rune{65533, 65533, 65533}},
		{"does not go on: a letter", "\xe2\x82a", []rune{65533, 65533, 'a'}},
		{"does not go on: another character", "\xf0\x9f\xc3\xa9", []rune{65533, 65533, 233}},
	} {
		if got := utf.Runes([]byte(x.b)); !slices.Equal(got, x.want) {
			t.Errorf("%s: %v, not %v", x.what, got, x.want)
		}
	}
	for b := range samples {
		if want, _ := runes(b); !slices.Equal(utf.Runes(b), want) {
			t.Fatalf("%x: %v, not %v", b, utf.Runes(b), want)
		}
	}
}

// P1.1: Text.
func TestText(t *testing.T) {
	for _, x := range []struct {
		l    []rune
		want string
	}{
		{nil, ""},
		{[]rune{}, ""},
		{[]rune{'a', 233, 8364, 128512}, "a\xc3\xa9\xe2\x82\xac\xf0\x9f\x98\x80"},
		{[]rune{13, 10, 0}, "\r\n\x00"},
		{[]rune{0x7f, 0x80, 0x7ff, 0x800, 0xffff, 0x10000, 1114111}, "\x7f\xc2\x80\xdf\xbf\xe0\xa0\x80\xef\xbf\xbf\xf0\x90\x80\x80\xf4\x8f\xbf\xbf"},
		{[]rune{65533}, "\xef\xbf\xbd"},
		{[]rune{55295, 57344}, "\xed\x9f\xbf\xee\x80\x80"},
		{[]rune{55296}, "\xef\xbf\xbd"},
		{[]rune{57343}, "\xef\xbf\xbd"},
		{[]rune{0xd83d, 0xde00}, "\xef\xbf\xbd\xef\xbf\xbd"},
		{[]rune{-1, -1 << 31}, "\xef\xbf\xbd\xef\xbf\xbd"},
		{[]rune{1114112, 1<<31 - 1}, "\xef\xbf\xbd\xef\xbf\xbd"},
	} {
		if got := utf.Text(x.l); got != x.want {
			t.Errorf("%v: %q, not %q", x.l, got, x.want)
		}
	}
	for r := rune(-2); r <= 1114113; r++ {
		want := []rune{r}
		if r < 0 || 55296 <= r && r <= 57343 || r > 1114111 {
			want[0] = 65533
		}
		if got, clean := runes([]byte(utf.Text([]rune{r}))); !clean || !slices.Equal(got, want) {
			t.Fatalf("%d: %v", r, got)
		}
	}
}

// P1.2: Right.
func TestRight(t *testing.T) {
	for b, want := range map[string]string{
		"":                     "",
		"a b":                  "a b",
		"a\r\nb\xff":           "a\nb\xef\xbf\xbd",
		"\n":                   "\n",
		"\n\n":                 "\n\n",
		"\r":                   "\n",
		"\r\n":                 "\n",
		"\r\r":                 "\n\n",
		"\r\r\n":               "\n\n",
		"\r\n\n":               "\n\n",
		"\r\n\r\n":             "\n\n",
		"\n\r":                 "\n\n",
		"\n\r\n":               "\n\n",
		"\ra\n":                "\na\n",
		"\r\x00\n":             "\n\xef\xbf\xbd\n",
		"\r\xff\n":             "\n\xef\xbf\xbd\n",
		"\x00":                 "\xef\xbf\xbd",
		"\x00\x00":             "\xef\xbf\xbd\xef\xbf\xbd",
		"\x01\x09\x0b\x0c\x7f": "\x01\x09\x0b\x0c\x7f",
		"\xef\xbf\xbd":         "\xef\xbf\xbd",
		"\xed\xa0\x80":         "\xef\xbf\xbd\xef\xbf\xbd\xef\xbf\xbd",
		"\xc0\x8d":             "\xef\xbf\xbd\xef\xbf\xbd",
		"\xc2\x85\xe2\x80\xa8": "\xc2\x85\xe2\x80\xa8",
		"\xef\xbb\xbfa":        "\xef\xbb\xbfa",
		"\xf4\x8f\xbf\xbf":     "\xf4\x8f\xbf\xbf",
		"\xf4\x90\x80\x80":     "\xef\xbf\xbd\xef\xbf\xbd\xef\xbf\xbd\xef\xbf\xbd",
	} {
		if got := utf.Right([]byte(b)); got != want {
			t.Errorf("%q: %q, not %q", b, got, want)
		}
	}
	if utf.Right(nil) != "" {
		t.Error("of nil")
	}
	for b := range samples {
		l, _ := runes(b)
		if got, want := utf.Right(b), string(right(l)); got != want {
			t.Fatalf("%x: %q, not %q", b, got, want)
		}
	}
}

// P1.2: Is.
func TestIs(t *testing.T) {
	for s, want := range map[string]bool{
		"":                             true,
		"a\n\t\x01\x7f":                true,
		"\xc3\xa9\xe2\x82\xac":         true,
		"\xf0\x9f\x98\x80":             true,
		"\xef\xbf\xbd":                 true,
		"a\xef\xbf\xbdb":               true,
		"\xf4\x8f\xbf\xbf":             true,
		"\xed\x9f\xbf\xee\x80\x80":     true,
		"\r":                           false,
		"a\r\n":                        false,
		"\x00":                         false,
		"ab\x00":                       false,
		"\xff":                         false,
		"a\x80":                        false,
		"\xc3":                         false,
		"\xe2\x82":                     false,
		"\xc0\x80":                     false,
		"\xed\xa0\x80":                 false,
		"\xed\xbf\xbf":                 false,
		"\xf4\x90\x80\x80":             false,
		"\xef\xbf\xbd\xff":             false,
		"\xff\xef\xbf\xbd":             false,
		"\xef\xbf":                     false,
		"\xef\xef\xbf\xbd":             false,
		"\xf0\x9f\x98\x80\xf0\x9f\x98": false,
	} {
		if got := utf.Is(s); got != want {
			t.Errorf("%q: %v", s, got)
		}
	}
	for b := range samples {
		_, clean := runes(b)
		if got, want := utf.Is(string(b)), clean && !slices.Contains(b, 13) && !slices.Contains(b, 0); got != want {
			t.Fatalf("%x: %v", b, got)
		}
	}
}

// P1.2: Fold.
func TestFold(t *testing.T) {
	for s, want := range map[string]string{
		"":                             "",
		"AbZ":                          "abz",
		"ABCDEFGHIJKLMNOPQRSTUVWXYZ":   "abcdefghijklmnopqrstuvwxyz",
		"@[`{":                         "@[`{",
		"a-Z 09\r\n\x00":               "a-z 09\r\n\x00",
		"\xc3\x89\xc4\xb0\xe2\x84\xaa": "\xc3\x89\xc4\xb0\xe2\x84\xaa",
		"\xffA\xc3B\xe2\x82":           "\xffa\xc3b\xe2\x82",
		"\xc1\xda":                     "\xc1\xda",
	} {
		if got := utf.Fold(s); got != want {
			t.Errorf("%q: %q, not %q", s, got, want)
		}
	}
	for i := range 256 {
		want := byte(i)
		if p := strings.IndexByte("ABCDEFGHIJKLMNOPQRSTUVWXYZ", want); p >= 0 {
			want = "abcdefghijklmnopqrstuvwxyz"[p]
		}
		if got := utf.Fold(string([]byte{byte(i), 'x'})); got != string([]byte{want, 'x'}) {
			t.Errorf("%d: %q", i, got)
		}
	}
}

// P1.2: Prefix.
func TestPrefix(t *testing.T) {
	for _, x := range []struct {
		s, word string
		want    bool
	}{
		{"", "", true},
		{"x", "", true},
		{"\xff", "", true},
		{"", "a", false},
		{"a", "a", true},
		{"A", "a", true},
		{"a", "A", false},
		{"A", "A", false},
		{"</SCRIPT>", "</script", true},
		{"</ScRiPt", "</script", true},
		{"</scrip", "</script", false},
		{"</scrips", "</script", false},
		{" </script", "</script", false},
		{"ABC", "ab", true},
		{"ABC", "aB", false},
		{"ABC", "abcd", false},
		{"@", "`", false},
		{"[", "{", false},
		{"\xff\xfe", "\xff", true},
		{"\xff", "\xef\xbf\xbd", false},
		{"\xc3\x89", "\xc3", true},
		{"\xc3\x89", "\xc3\xa9", false},
		{"\xe2\x84\xaa", "k", false},
		{"a\x00\r", "a\x00\r", true},
	} {
		if got := utf.Prefix(x.s, x.word); got != x.want {
			t.Errorf("%q, %q: %v", x.s, x.word, got)
		}
	}
	for i := range 256 {
		for j := range 256 {
			s, word := string([]byte{byte(i), 'X'}), string([]byte{byte(j)})
			if got := utf.Prefix(s, word); got != (utf.Fold(s)[:1] == word) {
				t.Errorf("%q, %q: %v", s, word, got)
			}
		}
	}
}

// P1.3: what is made right is right, and is made right as the same; and so Is tells just what Right leaves as it is.
func TestRightStays(t *testing.T) {
	for b := range samples {
		s := utf.Right(b)
		if !utf.Is(s) {
			t.Fatalf("%x: %q is not right", b, s)
		}
		if again := utf.Right([]byte(s)); again != s {
			t.Fatalf("%x: %q, again %q", b, s, again)
		}
		if utf.Is(string(b)) != (s == string(b)) {
			t.Fatalf("%x: %q", b, s)
		}
	}
}

// R4: what is handed in is not changed; what is answered is new memory, and nothing is kept.
func TestNothingShared(t *testing.T) {
	b := []byte("a\r\n\x00\xffB")
	was := slices.Clone(b)
	l, s := utf.Runes(b), utf.Right(b)
	if !slices.Equal(b, was) {
		t.Errorf("bytes changed: %q", b)
	}
	clear(b)
	if !slices.Equal(l, []rune{'a', 13, 10, 0, 65533, 'B'}) || s != "a\n\ufffd\ufffdB" {
		t.Errorf("bytes kept: %v %q", l, s)
	}
	handed := []rune{'a', -1, 'b'}
	s = utf.Text(handed)
	if !slices.Equal(handed, []rune{'a', -1, 'b'}) {
		t.Errorf("characters changed: %v", handed)
	}
	clear(handed)
	if s != "a\ufffdb" {
		t.Errorf("characters kept: %q", s)
	}
	clear(l)
	if !slices.Equal(utf.Runes(was), []rune{'a', 13, 10, 0, 65533, 'B'}) {
		t.Error("an answer kept")
	}
}
