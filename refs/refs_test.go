package refs_test

import (
	"regexp"
	"strconv"
	"strings"
	"testing"

	"strainer/refs"
	"strainer/sample"
	"strainer/utf"
)

// names are the fifteen names, each with its character.
var names = map[string]rune{
	"amp": '&', "lt": '<', "gt": '>', "quot": '"', "apos": '\'',
	"nbsp": 0xa0, "copy": '©', "reg": '®', "deg": '°', "middot": '·',
	"times": '×', "ndash": '–', "mdash": '—', "hellip": '…', "euro": '€',
}

// form is a reference's form: what the package is held against.
var form = regexp.MustCompile(`&(?:#([0-9]{1,7})|#[xX]([0-9a-fA-F]{1,6})|(amp|lt|gt|quot|apos|nbsp|copy|reg|deg|middot|times|ndash|mdash|hellip|euro));`)

// meant is what a whole reference stands for.
func meant(reference string) rune {
	parts := form.FindStringSubmatch(reference)
	if parts[3] != "" {
		return names[parts[3]]
	}
	digits, base := parts[1], 10
	if digits == "" {
		digits, base = parts[2], 16
	}
	n, err := strconv.ParseInt(digits, base, 64)
	if err != nil {
		panic(err)
	}
	return character(n)
}

// character is a number's character.
func character(n int64) rune {
	if n == 0 || n == 13 || n >= 55296 && n <= 57343 || n > 1114111 {
		return 65533
	}
	return rune(n)
}

// one is what One is to tell.
func one(s string) (rune, int) {
	place := form.FindStringIndex(s)
	if place == nil || place[0] > 0 {
		return 0, 0
	}
	return meant(s[:place[1]]), place[1]
}

// decode is what Decode is to tell.
func decode(s string) string {
	return form.ReplaceAllStringFunc(s, func(reference string) string { return string(meant(reference)) })
}

// pieces are what samples are joined of: what references have, what ends them, what stands beside them.
var pieces = []string{"&", "#", "x", "X", "0", "65", "aF", "1114112", ";", "lt", "amp", "g", " ", "\xff", "\xe2\x82"}

// samples yields every row of up to four pieces, and of what begins as a reference and up to four behind it.
func samples(yield func(string) bool) {
	for _, ahead := range []string{"", "&", "&#", "&#x"} {
		if !rows(4, ahead, yield) {
			return
		}
	}
}

// rows yields a row and every one that goes on with up to that many pieces.
func rows(more int, ahead string, yield func(string) bool) bool {
	if !yield(ahead) {
		return false
	}
	if more == 0 {
		return true
	}
	for _, piece := range pieces {
		if !rows(more-1, ahead+piece, yield) {
			return false
		}
	}
	return true
}

// P2.1: Name.
func TestName(t *testing.T) {
	if len(names) != 15 {
		t.Fatal(len(names))
	}
	check := func(s string) {
		want, is := names[s]
		if r, known := refs.Name(s); r != want || known != is {
			t.Errorf("%q: %d %v, not %d %v", s, r, known, want, is)
		}
	}
	for name := range names {
		check(name)
		check(strings.ToUpper(name))
		check(strings.ToUpper(name[:1]) + name[1:])
		check("&" + name + ";")
		for s := range sample.Changed(name) {
			check(s)
		}
	}
	for _, s := range []string{"", "AMP", "no", "#65", "#x41", "amp;", "&amp", "acute", "lang", "rang", "zwj", "65", "\xff", "\x00", strings.Repeat("amp", 1000)} {
		check(s)
	}
}

// P2.1: One.
func TestOne(t *testing.T) {
	for _, x := range []struct {
		s    string
		want rune
		size int
	}{
		{"&amp;", '&', 5},
		{"&gt;x", '>', 4},
		{"&hellip;&lt;", 8230, 8},
		{"&#65;x", 'A', 5},
		{"&#x41;x", 'A', 6},
		{"&#X41;x", 'A', 6},
		{"&#1;", 1, 4},
		{"&#9;", 9, 4},
		{"&#10;", 10, 5},
		{"&#x20AC;", 8364, 8},
		{"&#x20ac;", 8364, 8},
		{"&#xa;", 10, 5},
		{"&#XF;", 15, 5},
		{"&#0000065;", 'A', 10},
		{"&#00000065;", 0, 0},
		{"&#0000000;", 65533, 10},
		{"&#00000000;", 0, 0},
		{"&#9999999;", 65533, 10},
		{"&#10000000;", 0, 0},
		{"&#x000041;", 'A', 10},
		{"&#X000041;", 'A', 10},
		{"&#x0000041;", 0, 0},
		{"&#X0000041;", 0, 0},
		{"&#xffffff;", 65533, 10},
		{"&#XFFFFFF;", 65533, 10},
		{"&#x1000000;", 0, 0},
		{"&#" + strings.Repeat("9", 100) + ";", 0, 0},
		{"&#x" + strings.Repeat("f", 100) + ";", 0, 0},
		{"&#0;", 65533, 4},
		{"&#x0;", 65533, 5},
		{"&#12;", 12, 5},
		{"&#13;", 65533, 5},
		{"&#xD;", 65533, 5},
		{"&#14;", 14, 5},
		{"&#55295;", 55295, 8},
		{"&#55296;", 65533, 8},
		{"&#xd800;", 65533, 8},
		{"&#57343;", 65533, 8},
		{"&#xDFFF;", 65533, 8},
		{"&#57344;", 57344, 8},
		{"&#65533;", 65533, 8},
		{"&#65535;", 65535, 8},
		{"&#128;", 128, 6},
		{"&#1114111;", 1114111, 10},
		{"&#x10FFFF;", 1114111, 10},
		{"&#1114112;", 65533, 10},
		{"&#x110000;", 65533, 10},
		{"", 0, 0},
		{"x", 0, 0},
		{"x&gt;", 0, 0},
		{" &gt;", 0, 0},
		{"gt;", 0, 0},
		{"#65;", 0, 0},
		{";", 0, 0},
		{"&", 0, 0},
		{"&;", 0, 0},
		{"&#", 0, 0},
		{"&#;", 0, 0},
		{"&#x", 0, 0},
		{"&#x;", 0, 0},
		{"&#X;", 0, 0},
		{"&#xg;", 0, 0},
		{"&#xx41;", 0, 0},
		{"&x41;", 0, 0},
		{"&65;", 0, 0},
		{"&##65;", 0, 0},
		{"&#1a;", 0, 0},
		{"&#a;", 0, 0},
		{"&#-1;", 0, 0},
		{"&#+1;", 0, 0},
		{"&#1_0;", 0, 0},
		{"&# 65;", 0, 0},
		{"&#65 ;", 0, 0},
		{"&#x41h;", 0, 0},
		{"&#65", 0, 0},
		{"&#65&", 0, 0},
		{"&#65:", 0, 0},
		{"&#0000065", 0, 0},
		{"&#x41", 0, 0},
		{"&#x000041", 0, 0},
		{"&amp", 0, 0},
		{"&amp&", 0, 0},
		{"&amp ;", 0, 0},
		{"& amp;", 0, 0},
		{"&&amp;", 0, 0},
		{"&AMP;", 0, 0},
		{"&Amp;", 0, 0},
		{"&ampx;", 0, 0},
		{"&am;", 0, 0},
		{"&no;", 0, 0},
		{"&hellip", 0, 0},
		{"&hellips;", 0, 0},
		{"&#\xff;", 0, 0},
		{"&#6\xff;", 0, 0},
		{"&#x\xef\xbf\xbd;", 0, 0},
		{"\xff&lt;", 0, 0},
		{"&\xfflt;", 0, 0},
		{"&l\xfft;", 0, 0},
		{"&lt\xff;", 0, 0},
		{"&lt;\xff", '<', 4},
		{"&#65;\xff", 'A', 5},
		{"&#\uff16\uff15;", 0, 0},
		{"&#\u0666;", 0, 0},
		{"&#x\uff21;", 0, 0},
		{"\uff06lt;", 0, 0},
	} {
		if r, size := refs.One(x.s); r != x.want || size != x.size {
			t.Errorf("%q: %d %d, not %d %d", x.s, r, size, x.want, x.size)
		}
	}
	for name, want := range names {
		if r, size := refs.One("&" + name + ";lt;"); r != want || size != len(name)+2 {
			t.Errorf("%s: %d %d", name, r, size)
		}
	}
}

// P2.1: One, with every number that is a character of three bytes or is near the greatest one, and some of the others.
func TestOneNumbers(t *testing.T) {
	check := func(s string, want rune, size int) {
		if r, n := refs.One(s); r != want || n != size {
			t.Errorf("%s: %d %d, not %d %d", s, r, n, want, size)
		}
	}
	for n := range int64(20000000) {
		if n > 66000 && (n < 1114000 || n > 1114200) && n%997 > 0 {
			continue
		}
		decimal, sixteen := strconv.FormatInt(n, 10), strconv.FormatInt(n, 16)
		want, size := character(n), len(decimal)+3
		if len(decimal) > 7 {
			want, size = 0, 0
		}
		check("&#"+decimal+";", want, size)
		want, size = character(n), len(sixteen)+4
		if len(sixteen) > 6 {
			want, size = 0, 0
		}
		check("&#x"+sixteen+";", want, size)
		check("&#X"+strings.ToUpper(sixteen)+";", want, size)
	}
}

// P2.1: One, with each byte of references changed, left out or put in.
func TestOneChanged(t *testing.T) {
	whole := []string{"&#7;", "&#65;", "&#1114111;", "&#x7;", "&#xaF;", "&#X10ffff;"}
	for name := range names {
		whole = append(whole, "&"+name+";")
	}
	for _, reference := range whole {
		for s := range sample.Changed(reference) {
			want, size := one(s)
			if r, n := refs.One(s); r != want || n != size {
				t.Errorf("%q: %d %d, not %d %d", s, r, n, want, size)
			}
		}
	}
}

// P2.1: Decode.
func TestDecode(t *testing.T) {
	for s, want := range map[string]string{
		"":                              "",
		"a b":                           "a b",
		"a&lt;&#x20AC;&no;":             "a<\u20ac&no;",
		"&lt;":                          "<",
		"x&lt;y&gt;z":                   "x<y>z",
		"&#65;&#x41;&#X41;":             "AAA",
		"&quot;&apos;&nbsp;":            "\"'\u00a0",
		"&#0;&#13;&#xDFFF;&#1114112;":   "\ufffd\ufffd\ufffd\ufffd",
		"&#13;&#10;":                    "\ufffd\n",
		"&amp;lt;":                      "&lt;",
		"&#38;lt;":                      "&lt;",
		"&#x26;#65;":                    "&#65;",
		"&amp;amp;lt;":                  "&amp;lt;",
		"&amp;&lt;":                     "&<",
		"&&amp;lt;":                     "&&lt;",
		"&l&#116;;":                     "&lt;",
		"&lt&#59;":                      "&lt;",
		"&&#35;65;":                     "&#65;",
		"&#&#54;5;":                     "&#65;",
		"&#6&#53;;":                     "&#65;",
		"&&&lt;":                        "&&<",
		"&#&lt;":                        "&#<",
		"&#1&lt;":                       "&#1<",
		"&#x&lt;":                       "&#x<",
		"&amp&lt;":                      "&amp<",
		"&;&#;&#x;&#X;&#xg;&#1a;":       "&;&#;&#x;&#X;&#xg;&#1a;",
		"&AMP;&Lt;& lt;&lt ;&lt":        "&AMP;&Lt;& lt;&lt ;&lt",
		"&#12345678;&#x1000000;":        "&#12345678;&#x1000000;",
		"\xff&lt;\xfe":                  "\xff<\xfe",
		"\xe2\x82&lt;\xac":              "\xe2\x82<\xac",
		"&\xff;&#\xff;&lt\xff;\xed\xa0": "&\xff;&#\xff;&lt\xff;\xed\xa0",
		"\x00\r\n&#65;\x00":             "\x00\r\nA\x00",
		"&#195;&#169;":                  "\u00c3\u00a9",
		"\xc3&#169;":                    "\xc3\u00a9",
		"\xef\xbf\xbd&":                 "\xef\xbf\xbd&",
	} {
		if got := refs.Decode(s); got != want {
			t.Errorf("%q: %q, not %q", s, got, want)
		}
	}
	for name, want := range names {
		if got := refs.Decode("a&" + name + ";&" + name + "&" + name + ";b"); got != "a"+string(want)+"&"+name+string(want)+"b" {
			t.Errorf("%s: %q", name, got)
		}
	}
}

// P2.1: One and Decode, with many texts.
func TestSamples(t *testing.T) {
	for s := range samples {
		want, size := one(s)
		if r, n := refs.One(s); r != want || n != size {
			t.Fatalf("%q: %d %d, not %d %d", s, r, n, want, size)
		}
		if got, want := refs.Decode(s), decode(s); got != want {
			t.Fatalf("%q: %q, not %q", s, got, want)
		}
	}
}

// P2.1: Decode of long texts ends: what a reference isn't is not looked for again and again.
func TestDecodeLong(t *testing.T) {
	const many = 1 << 20
	for _, piece := range []string{"&", "&a", "&#", "&#1", "&#x", "&#xf", "&amp", "a", "\xff"} {
		s := strings.Repeat(piece, many)
		if got := refs.Decode(s); got != s {
			t.Errorf("%q: %d bytes", piece, len(got))
		}
	}
	digits := strings.Repeat("1", many) + ";"
	for _, s := range []string{"&#" + digits, "&#x" + digits, "&" + digits} {
		if refs.Decode(s) != s {
			t.Errorf("%q", s[:4])
		}
	}
	if got := refs.Decode(strings.Repeat("&#38;amp;", many)); got != strings.Repeat("&amp;", many) {
		t.Errorf("%d bytes", len(got))
	}
}

// P2.1: Escape.
func TestEscape(t *testing.T) {
	for _, x := range []struct{ s, text, value string }{
		{"", "", ""},
		{"a b", "a b", "a b"},
		{"<a \"b\" & 'c'>", "&lt;a \"b\" &amp; 'c'&gt;", "&lt;a &quot;b&quot; &amp; 'c'&gt;"},
		{"&", "&amp;", "&amp;"},
		{"&&", "&amp;&amp;", "&amp;&amp;"},
		{"\"", "\"", "&quot;"},
		{"&lt;&quot;", "&amp;lt;&amp;quot;", "&amp;lt;&amp;quot;"},
		{"&#38;", "&amp;#38;", "&amp;#38;"},
		{"\u00a0\u20ac\u00a9", "\u00a0\u20ac\u00a9", "\u00a0\u20ac\u00a9"},
		{"\x00\t\r\n\x7f", "\x00\t\r\n\x7f", "\x00\t\r\n\x7f"},
		{"\xff<\xe2\x82\xed\xa0\x80", "\xff&lt;\xe2\x82\xed\xa0\x80", "\xff&lt;\xe2\x82\xed\xa0\x80"},
	} {
		if got := refs.Escape(x.s, false); got != x.text {
			t.Errorf("%q: %q, not %q", x.s, got, x.text)
		}
		if got := refs.Escape(x.s, true); got != x.value {
			t.Errorf("%q in a value: %q, not %q", x.s, got, x.value)
		}
	}
	for i := range 256 * 256 {
		s := string([]byte{byte(i >> 8), byte(i)})
		text := strings.ReplaceAll(strings.ReplaceAll(strings.ReplaceAll(s, "&", "&amp;"), "<", "&lt;"), ">", "&gt;")
		if got := refs.Escape(s, false); got != text {
			t.Fatalf("%q: %q, not %q", s, got, text)
		}
		if got := refs.Escape(s, true); got != strings.ReplaceAll(text, "\"", "&quot;") {
			t.Fatalf("%q in a value: %q", s, got)
		}
	}
}

// P2.2: what is written is decoded as it was, also bytes that are no UTF-8, and references.
func TestEscapeDecoded(t *testing.T) {
	check := func(s string) {
		for _, value := range []bool{false, true} {
			if got := refs.Decode(refs.Escape(s, value)); got != s {
				t.Fatalf("%q (%v): %q", s, value, got)
			}
		}
	}
	for s := range samples {
		check(s)
	}
	for i := range 256 * 256 {
		check("a" + string([]byte{byte(i >> 8), byte(i)}) + "lt;")
	}
	for name, r := range names {
		check("&" + name + ";")
		check(string(r) + name + ";")
	}
}

// P2.2: of a right text what is decoded is right.
func TestDecodedRight(t *testing.T) {
	check := func(s string) {
		if utf.Is(s) && !utf.Is(refs.Decode(s)) {
			t.Fatalf("%q: %q", s, refs.Decode(s))
		}
	}
	for s := range samples {
		check(s)
	}
	for n := range int64(66000) {
		check("&#" + strconv.FormatInt(n, 10) + ";")
		check("\u20ac&#x" + strconv.FormatInt(n, 16) + ";\n")
	}
	for name := range names {
		check("&" + name + ";")
	}
}
