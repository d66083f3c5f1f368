package token_test

import (
	"math/rand/v2"
	"regexp"
	"slices"
	"strconv"
	"strings"
	"testing"

	"strainer/api"
	"strainer/dom"
	"strainer/refs"
	"strainer/token"
	"strainer/utf"
	"strainer/write"
)

// show is tokens as a line: `<a b="1">` a Begin, `</a>` an End, `"x"` Chars, `!"x"` a Remark, `nothing` the zero token, `odd` what is none of these.
func show(l ...api.Token) string {
	var out []string
	for _, t := range l {
		out = append(out, shown(t))
	}
	return strings.Join(out, " ")
}

// shown is a token as show tells it.
func shown(t api.Token) string {
	named, listed, told := t.Name != "", len(t.Attrs) > 0, t.Text != ""
	switch {
	case t.Kind == api.Begin && named && !told:
		s := "<" + t.Name
		for _, a := range t.Attrs {
			s += " " + a.Name + "=" + strconv.Quote(a.Value)
		}
		return s + ">"
	case t.Kind == api.End && named && !listed && !told:
		return "</" + t.Name + ">"
	case t.Kind == api.Chars && !named && !listed && told:
		return strconv.Quote(t.Text)
	case t.Kind == api.Remark && !named && !listed:
		return "!" + strconv.Quote(t.Text)
	case t.Kind == 0 && !named && !listed && !told:
		return "nothing"
	}
	return "odd"
}

// blanks are the four blanks.
const blanks = "\t\n\f "

// lower is a text with its bytes from A to Z as a to z.
func lower(s string) string {
	b := []byte(s)
	for i, c := range b {
		if c >= 'A' && c <= 'Z' {
			b[i] = c | 32
		}
	}
	return string(b)
}

// The forms of what no attributes stand in: what the package is held against.
var (
	beginning = regexp.MustCompile(`^<[A-Za-z]`)
	ending    = regexp.MustCompile(`^</([A-Za-z][A-Za-z0-9-]*)[^>]*>`)
	unended   = regexp.MustCompile(`^</[A-Za-z][^>]*$`)
	dashed    = regexp.MustCompile(`(?s)^<!--(.*?)(?:-->|$)`)
	other     = regexp.MustCompile(`^<[!?/]([^>]*)(?:>|$)`)
	inName    = regexp.MustCompile(`^[A-Za-z0-9-]$`)
)

// tag is what Tag is to tell.
func tag(s string) (api.Token, int) {
	if beginning.MatchString(s) {
		return walk(s)
	}
	if m := ending.FindStringSubmatch(s); m != nil {
		return api.Token{Kind: api.End, Name: lower(m[1])}, len(m[0])
	}
	if unended.MatchString(s) {
		return api.Token{}, len(s)
	}
	if strings.HasPrefix(s, "</>") {
		return api.Token{}, 3
	}
	for _, form := range []*regexp.Regexp{dashed, other} {
		if m := form.FindStringSubmatch(s); m != nil {
			return api.Token{Kind: api.Remark, Text: m[1]}, len(m[0])
		}
	}
	return api.Token{}, 0
}

// walk is the beginning tag that s begins with, told byte by byte by where each one stands.
func walk(s string) (api.Token, int) {
	t := api.Token{Kind: api.Begin}
	where, name, value := "name", "", ""
	add := func() {
		same := func(a api.Attr) bool { return a.Name == name }
		if !slices.ContainsFunc(t.Attrs, same) {
			t.Attrs = append(t.Attrs, api.Attr{Name: name, Value: refs.Decode(value)})
		}
		where, name, value = "between", "", ""
	}
	for i := 1; i < len(s); i++ {
		c := s[i : i+1]
		blank := strings.Contains(blanks, c)
		switch where {
		case "name":
			if inName.MatchString(c) {
				t.Name += lower(c)
				continue
			}
			where = "between"
			i--
		case "between":
			if c == ">" {
				return t, i + 1
			}
			if !blank && c != "/" && c != "=" {
				where, name = "key", lower(c)
			}
		case "key":
			if blank {
				where = "behind the key"
			} else if c == "=" {
				where = "ahead of the value"
			} else if c == "/" || c == ">" {
				add()
				i--
			} else {
				name += lower(c)
			}
		case "behind the key":
			if c == "=" {
				where = "ahead of the value"
			} else if !blank {
				add()
				i--
			}
		case "ahead of the value":
			if c == `"` || c == "'" {
				where = c
			} else if !blank {
				where = "bare"
				i--
			}
		case "bare":
			if blank || c == ">" {
				add()
				i--
			} else {
				value += c
			}
		default:
			if c == where {
				add()
			} else {
				value += c
			}
		}
	}
	return api.Token{}, len(s)
}

// ends is what Ends is to tell.
func ends(s, name string) int {
	low := lower(s)
	for i := range low {
		left, is := strings.CutPrefix(low[i:], "</"+name)
		if is && left != "" && strings.Contains(blanks+"/>", left[:1]) {
			return i
		}
	}
	return -1
}

// tokens is what Tokens is to tell.
func tokens(s string) []api.Token {
	var out []api.Token
	plain := ""
	flush := func() {
		if plain != "" {
			out = append(out, api.Token{Kind: api.Chars, Text: refs.Decode(plain)})
		}
		plain = ""
	}
	for s != "" {
		t, size := tag(s)
		if size == 0 {
			plain, s = plain+s[:1], s[1:]
			continue
		}
		flush()
		s = s[size:]
		if t.Kind != 0 {
			out = append(out, t)
		}
		if t.Kind == api.Begin && (t.Name == "script" || t.Name == "style") {
			end := ends(s, t.Name)
			if end < 0 {
				end = len(s)
			}
			if end > 0 {
				out = append(out, api.Token{Kind: api.Chars, Text: s[:end]})
			}
			s = s[end:]
		}
	}
	flush()
	return out
}

// pieces are what rows are joined of: all that a tag, a comment, a raw element has, what stands beside them, and what stands for other characters.
var pieces = []string{"<", ">", "/", "=", `"`, "'", " ", "!", "?", "-", "--", "a", "B", "1", "&lt;", "&amp", "\u00e9", "script", "STYLE", "\n"}

// heads are what rows begin with.
var heads = []string{"", "<", "</", "<!", "<!--", "<a", "<a b", "<a b ", "<a b=", "<a b= ", `<a b="`, "<a b='", "<a b=c", `<a b="c"`, "<a a b ", "</a", "</a ", "<script>", "<script></script", "<style a=", "<style>x</style", "x<a>"}

// rows yields each head with every row of up to so many pieces behind it.
func rows(most int) func(func(string) bool) {
	return func(yield func(string) bool) {
		for _, head := range heads {
			if !longer(most, head, yield) {
				return
			}
		}
	}
}

// mixed yields many rows of up to twenty pieces behind a head, always the same ones.
func mixed(yield func(string) bool) {
	r := rand.New(rand.NewPCG(1, 2))
	for range 200000 {
		s := heads[r.IntN(len(heads))]
		for range r.IntN(20) {
			s += pieces[r.IntN(len(pieces))]
		}
		if !yield(s) {
			return
		}
	}
}

// longer yields a row, and every one that goes on with up to so many pieces.
func longer(most int, row string, yield func(string) bool) bool {
	if !yield(row) {
		return false
	}
	if most == 0 {
		return true
	}
	for _, piece := range pieces {
		if !longer(most-1, row+piece, yield) {
			return false
		}
	}
	return true
}

// P5.1: Tokens, of what the chapter names.
func TestTokens(t *testing.T) {
	for _, x := range []struct{ s, want string }{
		{"", ``},
		{"<A b=1 C>x</a >", `<a b="1" c=""> "x" </a>`}, // the chapter's example

		// characters
		{"x", `"x"`},
		{" \t\n\f", `" \t\n\f"`},
		{"a&lt;&#65;&no;&amp", `"a<A&no;&amp"`},
		{"&amp;lt;", `"&lt;"`},
		{"&lt;b>", `"<b>"`},
		{"a>b</", `"a>b" !""`},
		{"<", `"<"`},
		{"x<", `"x<"`},
		{"<<", `"<<"`},
		{"<<b>", `"<" <b>`},
		{"< b>", `"< b>"`},
		{"<1>", `"<1>"`},
		{"<-a>", `"<-a>"`},
		{"<>", `"<>"`},
		{"<=a>", `"<=a>"`},
		{"<\u00e9>", "\"<\u00e9>\""},
		{"<&#97;>", `"<a>"`},
		{"1 < 2 <3 &lt; <b> <4", `"1 < 2 <3 < " <b> " <4"`},
		{"&l<t;", `"&l"`},
		{"&<b>lt;", `"&" <b> "lt;"`},
		{"&l<!>t;", `"&l" !"" "t;"`},
		{"&#<1;", `"&#<1;"`},
		{"a</>b", `"a" "b"`},
		{"\u00a0\ufffd\U0001f600", "\"\\u00a0\ufffd\U0001f600\""},

		// a tag's name
		{"<b>", `<b>`},
		{"<B>", `<b>`},
		{"<H1>", `<h1>`},
		{"<X-1->", `<x-1->`},
		{"<a1-Z9>", `<a1-z9>`},
		{"<abcdefghijklmnopqrstuvwxyz0123456789->", `<abcdefghijklmnopqrstuvwxyz0123456789->`},
		{"<ABCDEFGHIJKLMNOPQRSTUVWXYZ>", `<abcdefghijklmnopqrstuvwxyz>`},
		{"<br><img>", `<br> <img>`},
		{"<a_b>", `<a _b="">`},
		{"<a:b>", `<a :b="">`},
		{"<a.b>", `<a .b="">`},
		{"<a\u00e9>", "<a \u00e9=\"\">"},
		{"<a\u017f>", "<a \u017f=\"\">"},
		{"<a<b>", `<a <b="">`},
		{`<a"b'>`, `<a "b'="">`},

		// what is passed over
		{"<b/>", `<b>`},
		{"<b / = \t\n\f ///== >", `<b>`},
		{"<b=c>", `<b c="">`},
		{"<b =c=d>", `<b c="d">`},
		{"<b/c>", `<b c="">`},
		{"<b/c/d/>", `<b c="" d="">`},
		{"<b\tc\nd\fe f>", `<b c="" d="" e="" f="">`},
		{"<b\vc>", "<b \vc=\"\">"},
		{"<b\u00a0c>", "<b \u00a0c=\"\">"},
		{"<b>>", `<b> ">"`},
		{"<b >", `<b>`},

		// attributes' names
		{"<b C>", `<b c="">`},
		{"<b ID-x:Y_1.z>", `<b id-x:y_1.z="">`},
		{"<b \u00c9 \u212a>", "<b \u00c9=\"\" \u212a=\"\">"},
		{`<b "c'<d&lt;>`, `<b "c'<d&lt;="">`},
		{"<b &#65;>", `<b &#65;="">`},
		{"<b c d>", `<b c="" d="">`},
		{"<b c/d>", `<b c="" d="">`},
		{"<b c\n>", `<b c="">`},

		// values
		{"<b c=d>", `<b c="d">`},
		{"<b c = d>", `<b c="d">`},
		{"<b c\t\n=\f d>", `<b c="d">`},
		{"<b c=>", `<b c="">`},
		{"<b c= >", `<b c="">`},
		{"<b c=>d", `<b c=""> "d"`},
		{"<b c=\n d=e>", `<b c="d=e">`},
		{"<b c==d>", `<b c="=d">`},
		{"<b c= =d>", `<b c="=d">`},
		{"<b c==>", `<b c="=">`},
		{"<b c / = d>", `<b c="" d="">`},
		{"<b c/=d>", `<b c="" d="">`},
		{"<b c=d/>", `<b c="d/">`},
		{"<b c=/>", `<b c="/">`},
		{"<b c=/ >", `<b c="/">`},
		{"<b c=d/e=f>", `<b c="d/e=f">`},
		{"<b c=d e=f\tg=h\ni=j\fk=l>", `<b c="d" e="f" g="h" i="j" k="l">`},
		{"<b c=d\ve>", `<b c="d\ve">`},
		{`<b c=d"e'f<g>`, `<b c="d\"e'f<g">`},
		{"<b c=D>", `<b c="D">`},
		{`<b c="d">`, `<b c="d">`},
		{`<b c='d'>`, `<b c="d">`},
		{`<b c=""d=''>`, `<b c="" d="">`},
		{`<b c = "d" e= 'f'>`, `<b c="d" e="f">`},
		{`<b c=" d>e/f=g'h` + "\n" + ` ">`, `<b c=" d>e/f=g'h\n ">`},
		{`<b c='"<!---->"'>`, `<b c="\"<!---->\"">`},
		{`<b c="d"e>`, `<b c="d" e="">`},
		{`<b c="d"=e>`, `<b c="d" e="">`},
		{`<b c="d"/e>`, `<b c="d" e="">`},
		{`<b c="d""e">`, `<b c="d" "e"="">`},
		{`<b c='d'"e>`, `<b c="d" "e="">`},
		{`<b "c"="d">`, `<b "c"="d">`},
		{`<b c="&quot;&lt;&#65;&no;">`, `<b c="\"<A&no;">`},
		{`<b c=&quot;d&quot;>`, `<b c="\"d\"">`},
		{`<b c='&apos;'>`, `<b c="'">`},
		{"<b c=&gt;&#32;d>", `<b c="> d">`},
		{"<b c=&amp;lt;>", `<b c="&lt;">`},
		{"<b c=&lt>", `<b c="&lt">`},
		{"<b c=\u00e9\u00a0>", "<b c=\"\u00e9\\u00a0\">"},

		// attributes of one name
		{"<b c=1 c=2>", `<b c="1">`},
		{"<b c C=2>", `<b c="">`},
		{"<b C=1 d=2 c=3 D=4 e>", `<b c="1" d="2" e="">`},
		{"<b c c c>", `<b c="">`},
		{"<b k=1 \u212a=2>", "<b k=\"1\" \u212a=\"2\">"},
		{"<b c=1><b c=2>", `<b c="1"> <b c="2">`},
		{"<b c=1 c='>", ``},

		// ending tags
		{"</b>", `</b>`},
		{"</B >x", `</b> "x"`},
		{"</b c=d>", `</b>`},
		{"</b/>", `</b>`},
		{"</b c='>'>", `</b> "'>"`},
		{"</b<i>x", `</b> "x"`},
		{"</x-1\u00e9>", `</x-1>`},
		{"</b_c>", `</b>`},
		{"</b></b>", `</b> </b>`},
		{"</br>", `</br>`},
		{"</script>x", `</script> "x"`},

		// comments
		{"<!--a-->b", `!"a" "b"`},
		{"<!---->", `!""`},
		{"<!--->-->x", `!"->" "x"`},
		{"<!-->-->x", `!">" "x"`},
		{"<!-->", `!">"`},
		{"<!--->", `!"->"`},
		{"<!----->", `!"-"`},
		{"<!------>x", `!"--" "x"`},
		{"<!--a--b-->c-->", `!"a--b" "c-->"`},
		{"<!--a- ->b-->", `!"a- ->b"`},
		{"<!--a--", `!"a--"`},
		{"<!--a", `!"a"`},
		{"<!--a--!>", `!"a--!>"`},
		{"<!--", `!""`},
		{"<!--<b>&lt;\n-->", `!"<b>&lt;\n"`},
		{"<!--<!--a-->b-->", `!"<!--a" "b-->"`},
		{"<!- -a-->", `!"- -a--"`},
		{"<!-", `!"-"`},
		{"<!->x", `!"-" "x"`},
		{"<!", `!""`},
		{"<!>", `!""`},
		{"<!x>y", `!"x" "y"`},
		{"<!DOCTYPE html>y", `!"DOCTYPE html" "y"`},
		{"<!x--y-->z", `!"x--y--" "z"`},
		{"<![CDATA[<b>]]>", `!"[CDATA[<b" "]]>"`},
		{"<! --x-->", `!" --x--"`},
		{"<!x", `!"x"`},
		{"<?x?>y", `!"x?" "y"`},
		{"<?x", `!"x"`},
		{"<?", `!""`},
		{"<?>", `!""`},
		{"<?--a>b-->", `!"--a" "b-->"`},
		{"<?&lt;>", `!"&lt;"`},
		{"</ x>y", `!" x" "y"`},
		{"</1>", `!"1"`},
		{"</-a>", `!"-a"`},
		{"<//b>", `!"/b"`},
		{"</=>", `!"="`},
		{"</\u00e9>", "!\"\u00e9\""},
		{"</<b>x", `!"<b" "x"`},
		{"</!--a-->", `!"!--a--"`},
		{"</ &lt;", `!" &lt;"`},
		{"</", `!""`},
		{"x</", `"x" !""`},
		{"<!--a--><?b><!c></ d>", `!"a" !"b" !"c" !" d"`},

		// nothing
		{"</>", ``},
		{"</></>", ``},
		{"</>z", `"z"`},
		{"a&am</>p;", `"a&am" "p;"`},
		{"<a", ``},
		{"x<a", `"x"`},
		{"<a ", ``},
		{"<a/", ``},
		{"<a =", ``},
		{"<a b", ``},
		{"<a b ", ``},
		{"<a b=", ``},
		{"<a b= ", ``},
		{"<a b=c", ``},
		{"<a b=c ", ``},
		{`<a b="`, ``},
		{`<a b="c`, ``},
		{`<a b="c"`, ``},
		{`x<a b='c>d</a><i>`, `"x"`},
		{`<a b="c'>d</a>`, ``},
		{`<a b=">x`, ``},
		{"<a <i", ``},
		{"</a", ``},
		{"</a ", ``},
		{"<i></a b='<u'", `<i>`},
		{"x</a <!--y--", `"x"`},
		{"<script", ``},
		{"<script x='></script>", ``},

		// raw elements
		{"<script></script>", `<script> </script>`},
		{"<style></style>", `<style> </style>`},
		{"<SCRIPT>a<b>&lt;<!--</Script >c&lt;", `<script> "a<b>&lt;<!--" </script> "c<"`},
		{"<style></styles></style>", `<style> "</styles>" </style>`},
		{"<style></script></style>", `<style> "</script>" </style>`},
		{"<script></style></script>", `<script> "</style>" </script>`},
		{"<script>x</script", `<script> "x</script"`},
		{"<script>x", `<script> "x"`},
		{"<script>", `<script>`},
		{"<script></", `<script> "</"`},
		{"<script></>", `<script> "</>"`},
		{"<script>x</script ", `<script> "x"`},
		{"<script>x</script/", `<script> "x"`},
		{"<script>x</script y='>'>z", `<script> "x" </script> "'>z"`},
		{"<script>x</script/>z", `<script> "x" </script> "z"`},
		{"<script>x</script\t><script>y</script\n><script>z</script\f>", `<script> "x" </script> <script> "y" </script> <script> "z" </script>`},
		{"<script>x</script\v></script>", `<script> "x</script\v>" </script>`},
		{"<script>x</script=></script>", `<script> "x</script=>" </script>`},
		{"<script>x</script\u00a0></script>", "<script> \"x</script\\u00a0>\" </script>"},
		{"<script>x</script-></script1></script>", `<script> "x</script-></script1>" </script>`},
		{"<script>x</ script>y< /script>z</script>", `<script> "x</ script>y< /script>z" </script>`},
		{"<script>x</\u017fcript></script>", "<script> \"x</\u017fcript>\" </script>"},
		{"<script><</script>", `<script> "<" </script>`},
		{"<script></</script>", `<script> "</" </script>`},
		{"<script></script</script>", `<script> "</script" </script>`},
		{"<script></scr</script>", `<script> "</scr" </script>`},
		{"<script/>x</script>", `<script> "x" </script>`},
		{"<script a='</script>'>&amp;</script>", `<script a="</script>"> "&amp;" </script>`},
		{"<script><script></script></script>", `<script> "<script>" </script> </script>`},
		{"<style><!--</style>--></style>", `<style> "<!--" </style> "-->" </style>`},
		{"<scripts>&lt;<b></scripts>", `<scripts> "<" <b> </scripts>`},
		{"<title>&lt;<b></title>", `<title> "<" <b> </title>`},
		{"</script>&lt;", `</script> "<"`},
		{"<b>&lt;</script>", `<b> "<" </script>`},
		{"<script>\n&lt;\u00e9\n</script>", "<script> \"\\n&lt;\u00e9\\n\" </script>"},
		{"a<style>b</STYLE>c<style>d</style>e", `"a" <style> "b" </style> "c" <style> "d" </style> "e"`},
	} {
		if got := show(token.Tokens(x.s)...); got != x.want {
			t.Errorf("%q: %s, not %s", x.s, got, x.want)
		}
		if got := show(tokens(x.s)...); got != x.want {
			t.Errorf("%q: the test itself: %s, not %s", x.s, got, x.want)
		}
	}
}

// P5.2: Tag and Starts, of what the chapter names.
func TestTag(t *testing.T) {
	for _, x := range []struct {
		s, want string
		size    int
	}{
		{"<b>x", `<b>`, 3},
		{"<b>", `<b>`, 3},
		{"<B c=1 C=2 d>>", `<b c="1" d="">`, 13},
		{"<b / = c = '>' />x", `<b c=">">`, 17},
		{"<b c=&lt;><i>", `<b c="<">`, 10},
		{"<b c=\u20ac\u00e9>x", "<b c=\"\u20ac\u00e9\">", 11},
		{"<b<i>x", `<b <i="">`, 5},
		{"<script>x</script>", `<script>`, 8},
		{"<br/></br>", `<br>`, 5},
		{"</b>x", `</b>`, 4},
		{"</B c='>'>", `</b>`, 8},
		{"</b\u20ac>x", `</b>`, 7},
		{"</script>", `</script>`, 9},
		{"<!--a-->b", `!"a"`, 8},
		{"<!---->b", `!""`, 7},
		{"<!-->b-->c", `!">b"`, 9},
		{"<!>b", `!""`, 3},
		{"<!a>b", `!"a"`, 4},
		{"<!->b", `!"-"`, 4},
		{"<?>b", `!""`, 3},
		{"<?a?>b", `!"a?"`, 5},
		{"</ >b", `!" "`, 4},
		{"</1>b", `!"1"`, 4},
		{"</<>b", `!"<"`, 4},
		{"<?&lt;\u20ac>b", "!\"&lt;\u20ac\"", 10},

		// nothing, and what does not end
		{"</>", `nothing`, 3},
		{"</></>", `nothing`, 3},
		{"<b", `nothing`, 2},
		{"<b ", `nothing`, 3},
		{"<b c='d>e</b>", `nothing`, 13},
		{"<b c=d", `nothing`, 6},
		{"<b \u20ac", `nothing`, 6},
		{"</b", `nothing`, 3},
		{"</b <i", `nothing`, 6},
		{"<!--", `!""`, 4},
		{"<!--a--", `!"a--"`, 7},
		{"<!-->", `!">"`, 5},
		{"<!--a>\u20ac", "!\"a>\u20ac\"", 9},
		{"<!", `!""`, 2},
		{"<!-", `!"-"`, 3},
		{"<!a<b", `!"a<b"`, 5},
		{"<?", `!""`, 2},
		{"<?a\n", `!"a\n"`, 4},
		{"</", `!""`, 2},
		{"</ a", `!" a"`, 4},
		{"</1", `!"1"`, 3},

		// none begins
		{"", `nothing`, 0},
		{"<", `nothing`, 0},
		{"x", `nothing`, 0},
		{"x<b>", `nothing`, 0},
		{" <b>", `nothing`, 0},
		{"\n</b>", `nothing`, 0},
		{"&lt;b>", `nothing`, 0},
		{"b>", `nothing`, 0},
		{"/b>", `nothing`, 0},
		{"!--a-->", `nothing`, 0},
		{"<<b>", `nothing`, 0},
		{"< b>", `nothing`, 0},
		{"<1>", `nothing`, 0},
		{"<->", `nothing`, 0},
		{"<-->", `nothing`, 0},
		{"<>", `nothing`, 0},
		{"<=>", `nothing`, 0},
		{"<&#98;>", `nothing`, 0},
		{"<\u00e9>", `nothing`, 0},
		{"<\u212a>", `nothing`, 0},
		{"\u20ac<b>", `nothing`, 0},
		{"\x82\xac<b>", `nothing`, 0},
		{"\xac", `nothing`, 0},
	} {
		if got, size := token.Tag(x.s); show(got) != x.want || size != x.size {
			t.Errorf("%q: %s %d, not %s %d", x.s, show(got), size, x.want, x.size)
		}
		if got, size := tag(x.s); show(got) != x.want || size != x.size {
			t.Errorf("%q: the test itself: %s %d, not %s %d", x.s, show(got), size, x.want, x.size)
		}
		if got := token.Starts(x.s); got != (x.size > 0) {
			t.Errorf("%q: it starts: %v", x.s, got)
		}
	}
}

// P5.2: Ends.
func TestEnds(t *testing.T) {
	for _, x := range []struct {
		s, name string
		want    int
	}{
		{"</script>", "script", 0},
		{"a</script>", "script", 1},
		{"a</script >", "script", 1},
		{"a</script\tb", "script", 1},
		{"a</script\n", "script", 1},
		{"a</script\f", "script", 1},
		{"a</script/", "script", 1},
		{"\u20ac</script>", "script", 3},
		{"</script", "script", -1},
		{"</scrip", "script", -1},
		{"", "script", -1},
		{"script>", "script", -1},
		{"<script>", "script", -1},
		{"/script>", "script", -1},
		{"</script\v>", "script", -1},
		{"</script=>", "script", -1},
		{"</script\">", "script", -1},
		{"</script<", "script", -1},
		{"</script->", "script", -1},
		{"</script1>", "script", -1},
		{"</script\u00a0>", "script", -1},
		{"</scripts>", "script", -1},
		{"</ script>", "script", -1},
		{"< /script>", "script", -1},
		{"</\u017fcript>", "script", -1},
		{"</SCRIPT>", "script", 0},
		{"</ScRiPt>", "script", 0},
		{"</script>", "SCRIPT", -1},
		{"</SCRIPT>", "SCRIPT", -1},
		{"</script>", "Script", -1},
		{"</SCRIPT></script>", "scripT", -1},
		{"</script></script>", "script", 0},
		{"</script</script>", "script", 8},
		{"</scripts></script>", "script", 10},
		{"</</script>", "script", 2},
		{"<</script>", "script", 1},
		{"</scr</script>", "script", 5},
		{"</style></script>", "script", 8},
		{"</style></script>", "style", 0},
		{"</b>", "b", 0},
		{"</b></div>", "div", 4},
		{"</x-1>", "x-1", 0},
		{"</br/>", "br", 0},
		{"</>", "", 0},
		{"</ ", "", 0},
		{"<//", "", 0},
		{"</\n", "", 0},
		{"</a></>", "", 4},
		{"</", "", -1},
		{"a", "", -1},
		{"", "", -1},
		{"</\u00e9>", "\u00e9", 0},
		{"</\u00c9>", "\u00e9", -1},
		{"</\u00e9>", "\xc3", -1},
		{"</\ufffd>", "\xff", -1},
		{"</ >", " ", 0},
		{"</  >", " ", 0},
		{"</a b>", "a b", 0},
		{"</a b>", "a", 0},
		{"</a>>", "a>", 0},
		{"</a/>", "a/", 0},
		{"</<>", "<", 0},
		{"</</</>", "</", 2},
		{"</</</</x</ ", "</", -1},
		{"</</a</</a>", "</a", 5},
		{"</a</a</b</a</a</c>", "a</a</c", 9},
		{"</a</a</a</a>", "a</a", 6},
		{"</a</a</a</b</a</a</a>", "a</a</a", 12},
		{"</aa</aaa</aaab</aaaa>", "aaaa", 15},
		{"</A</A</A>", "a</a", 3},
		{"</A</A</A>", "A</A", -1},
	} {
		if got := token.Ends(x.s, x.name); got != x.want {
			t.Errorf("%q in %q: %d, not %d", x.name, x.s, got, x.want)
		}
		if got := ends(x.s, x.name); got != x.want {
			t.Errorf("%q in %q: the test itself: %d, not %d", x.name, x.s, got, x.want)
		}
	}
}

// P5.2: Ends, of every text of few pieces, and every name of some.
func TestEndsRows(t *testing.T) {
	parts := []string{"<", "/", "</", "a", "A", "a</", ">", " ", "-", "\u00e9"}
	var names, texts []string
	for i := range len(parts) * len(parts) * len(parts) {
		names = append(names, parts[i%10]+parts[i/10%10]+parts[i/100])
	}
	names = append(append(names, parts...), "", "a</a</", "</a</a", "aa", "a</a</a</a")
	for i := range 10000 {
		texts = append(texts, parts[i%10]+parts[i/10%10]+parts[i/100%10]+parts[i/1000], "</"+parts[i%10]+parts[i/10%10]+"</"+parts[i/100%10]+parts[i/1000]+"</a ")
	}
	for _, name := range names {
		for _, s := range []string{"x</" + name + ">", "</" + name + "</" + name + " ", "</" + name + name + "/", "</" + name, strings.Repeat("</"+name, 5) + ">"} {
			if got, want := token.Ends(s, name), ends(s, name); got != want {
				t.Fatalf("%q in %q: %d, not %d", name, s, got, want)
			}
		}
	}
	for i, s := range texts {
		for k := range 40 {
			name := names[(i*40+k)%len(names)]
			if got, want := token.Ends(s, name), ends(s, name); got != want {
				t.Fatalf("%q in %q: %d, not %d", name, s, got, want)
			}
		}
	}
}

// whole tells what is wrong with a text's tokens, as far as the chapter says it of all texts.
func whole(l []api.Token) string {
	for _, x := range l {
		named := dom.Named(x.Name)
		switch {
		case x.Kind == api.Begin && named && x.Text == "":
			n := api.Node{Kind: api.Element, Name: x.Name, Attrs: x.Attrs}
			if e := dom.May([]api.Node{n}); e != api.OK {
				return show(x) + ": " + e.Error()
			}
		case x.Kind == api.End && named && len(x.Attrs) == 0 && x.Text == "":
		case x.Kind == api.Chars && x.Name == "" && len(x.Attrs) == 0 && x.Text != "" && utf.Is(x.Text):
		case x.Kind == api.Remark && x.Name == "" && len(x.Attrs) == 0 && utf.Is(x.Text):
		default:
			return show(x)
		}
	}
	return ""
}

// same tells whether tokens are.
func same(a, b []api.Token) bool {
	return slices.EqualFunc(a, b, func(x, y api.Token) bool {
		return x.Kind == y.Kind && x.Name == y.Name && x.Text == y.Text && slices.Equal(x.Attrs, y.Attrs)
	})
}

// check holds what Tokens, Tag and Starts tell of a text against what they are to tell.
func check(t *testing.T, s string) {
	t.Helper()
	got, want := token.Tokens(s), tokens(s)
	if !same(got, want) {
		t.Fatalf("%q: %s, not %s", s, show(got...), show(want...))
	}
	if odd := whole(got); odd != "" {
		t.Fatalf("%q: %s", s, odd)
	}
	checkTag(t, s)
}

// checkTag holds what Tag and Starts tell of a text against what they are to tell.
func checkTag(t *testing.T, s string) {
	t.Helper()
	got, size := token.Tag(s)
	want, length := tag(s)
	if !same([]api.Token{got}, []api.Token{want}) || size != length {
		t.Fatalf("%q: %s %d, not %s %d", s, show(got), size, show(want), length)
	}
	if token.Starts(s) != (length > 0) {
		t.Fatalf("%q: it starts: %v", s, token.Starts(s))
	}
}

// P5.1, P5.2: Tokens, Tag and Starts, of many rows of what texts are made of.
func TestRows(t *testing.T) {
	for s := range rows(3) {
		check(t, s)
	}
	for s := range mixed {
		check(t, s)
	}
}

// P5.2: Tag, Starts and Ends of what is left of a text from any byte on.
func TestLeft(t *testing.T) {
	for s := range rows(2) {
		for i := range len(s) {
			checkTag(t, s[i:])
			for _, name := range []string{"script", "style", "a", "", "SCRIPT"} {
				if got, want := token.Ends(s[i:], name), ends(s[i:], name); got != want {
					t.Fatalf("%q in %q: %d, not %d", name, s[i:], got, want)
				}
			}
		}
	}
}

// characters are all characters of one byte that a right text may have, and some of more.
func characters() []string {
	l := []string{"\u0080", "\u0085", "\u00a0", "\u00c9", "\u00e9", "\u017f", "\u2028", "\u212a", "\u3000", "\uff1c", "\uff1e", "\ufeff", "\ufffd", "\U0001f600", "\U0010ffff"}
	for c := 1; c < 128; c++ {
		if c != '\r' {
			l = append(l, string(rune(c)))
		}
	}
	return l
}

// P5.1: each character, wherever one may stand.
func TestCharacters(t *testing.T) {
	pick := func(c string, of ...string) string { // of a list of characters and what each of them makes: what c makes, else the last of the list
		for i := 0; i+1 < len(of); i += 2 {
			if strings.Contains(of[i], c) {
				return of[i+1]
			}
		}
		return of[len(of)-1]
	}
	const letters, digits = "abcdefghijklmnopqrstuvwxyzABCDEFGHIJKLMNOPQRSTUVWXYZ", "0123456789-"
	for _, c := range characters() {
		low, q := lower(c), strconv.Quote
		for s, want := range map[string]string{
			c:                           q(c),
			"<" + c + "x>y":             pick(c, letters, `<`+low+`x> "y"`, "!?", `!"x" "y"`, "/", `</x> "y"`, "<", `"<" <x> "y"`, q("<"+c+"x>y")),
			"</" + c + "x>y":            pick(c, letters, `</`+low+`x> "y"`, ">", `"x>y"`, `!`+q(c+"x")+` "y"`),
			"<a" + c + "b>y":            pick(c, letters+digits, `<a`+low+`b> "y"`, blanks+"/=", `<a b=""> "y"`, ">", `<a> "b>y"`, `<a `+low+`b=""> "y"`),
			"</a" + c + "b>y":           pick(c, letters+digits, `</a`+low+`b> "y"`, ">", `</a> "b>y"`, `</a> "y"`),
			"<a " + c + "b>y":           pick(c, blanks+"/=", `<a b=""> "y"`, ">", `<a> "b>y"`, `<a `+low+`b=""> "y"`),
			"<a b" + c + "d>y":          pick(c, blanks+"/", `<a b="" d=""> "y"`, "=", `<a b="d"> "y"`, ">", `<a b=""> "d>y"`, `<a b`+low+`d=""> "y"`),
			"<a b " + c + "d>y":         pick(c, blanks+"/", `<a b="" d=""> "y"`, "=", `<a b="d"> "y"`, ">", `<a b=""> "d>y"`, `<a b="" `+low+`d=""> "y"`),
			"<a b=" + c + "d>y":         pick(c, blanks, `<a b="d"> "y"`, ">", `<a b=""> "d>y"`, `'"`, ``, `<a b=`+q(c+"d")+`> "y"`),
			"<a b= " + c + "d>y":        pick(c, blanks, `<a b="d"> "y"`, ">", `<a b=""> "d>y"`, `'"`, ``, `<a b=`+q(c+"d")+`> "y"`),
			"<a b=d" + c + "e>y":        pick(c, blanks, `<a b="d" e=""> "y"`, ">", `<a b="d"> "e>y"`, `<a b=`+q("d"+c+"e")+`> "y"`),
			`<a b="` + c + `e">y`:       pick(c, `"`, `<a b="" e"=""> "y"`, `<a b=`+q(c+"e")+`> "y"`),
			`<a b='` + c + `e'>y`:       pick(c, "'", `<a b="" e'=""> "y"`, `<a b=`+q(c+"e")+`> "y"`),
			`<a b="d"` + c + `e>y`:      pick(c, blanks+"/=", `<a b="d" e=""> "y"`, ">", `<a b="d"> "e>y"`, `<a b="d" `+low+`e=""> "y"`),
			"<?" + c + "x>y":            pick(c, ">", `!"" "x>y"`, `!`+q(c+"x")+` "y"`),
			"<!" + c + "x>y":            pick(c, ">", `!"" "x>y"`, `!`+q(c+"x")+` "y"`),
			"<!--" + c + "-->y":         `!` + q(c) + ` "y"`,
			"<!---" + c + "-->y":        `!` + q("-"+c) + ` "y"`,
			"<!--a--" + c + "-->y":      pick(c, ">", `!"a" "-->y"`, `!`+q("a--"+c)+` "y"`),
			"<style>x</style" + c + ">": pick(c, blanks+"/", `<style> "x" </style>`, ">", `<style> "x" </style> ">"`, `<style> `+q("x</style"+c+">")),
			"<style>" + c + "</style>":  `<style> ` + q(c) + ` </style>`,
			"<style>x</" + c + "tyle>":  pick(c, "sS", `<style> "x" </style>`, `<style> `+q("x</"+c+"tyle>")),
			"<style>x</style>" + c:      `<style> "x" </style> ` + q(c),
		} {
			if got := show(token.Tokens(s)...); got != want {
				t.Errorf("%q: %s, not %s", s, got, want)
			}
		}
	}
}

// nodes are nodes that may be, of which what is written is told as their tags: a comment has no `-->`, a raw element no other kids than a text in which it does not end.
func nodes() []api.Node {
	text := func(s string) api.Node { return api.Node{Kind: api.Text, Text: s} }
	comment := func(s string) api.Node { return api.Node{Kind: api.Comment, Text: s} }
	el := func(name string, kids ...api.Node) api.Node {
		return api.Node{Kind: api.Element, Name: name, Kids: kids}
	}
	with := func(n api.Node, pairs ...string) api.Node {
		for i := 0; i < len(pairs); i += 2 {
			n.Attrs = append(n.Attrs, api.Attr{Name: pairs[i], Value: pairs[i+1]})
		}
		return n
	}
	return []api.Node{
		text("x"), text("<b>&lt;</b>\"'"), text("&amp;&#65;&"), text("<"), text("\n\u00e9\ufffd >"),
		comment(""), comment("-"), comment("--"), comment("-- >&lt;<b>"), comment("<!--"), comment(">"),
		el("b"), el("x-1", text("<"), comment("x"), el("i", text("&"))), el("p", el("div")), el("li", text("1"), el("li", text("2"))),
		el("br"), with(el("img"), "src", "x>", "alt", ""), with(el("wbr"), "x", "/"),
		with(el("b"), "id", "1&2"), with(el("b", text("y")), "a\"'<&lt;", "<\"&quot;'>", "\u00e9", " \n=/\u00a0"), with(el("b"), "c", "&no;&#65;", "b", "", "a", "="),
		el("script"), el("style", text("<b>&lt;</b><!--")), el("script", text("</script")), el("script", text("</style>")), with(el("style", text("<style></style-></ style>")), "x", "</style>"), el("script", text("<")), el("script", text("</")),
		el("title", text("</script>")), el("b", el("script", text("</b>")), text("</b>")),
	}
}

// tags is what is to be told of written nodes: of each one its tags, and texts that stand side by side as one.
func tags(l []api.Node) []api.Token {
	var out []api.Token
	for _, n := range l {
		last := len(out) - 1
		switch {
		case n.Kind == api.Comment:
			out = append(out, api.Token{Kind: api.Remark, Text: n.Text})
		case n.Kind == api.Text && last >= 0 && out[last].Kind == api.Chars:
			out[last].Text += n.Text
		case n.Kind == api.Text:
			out = append(out, api.Token{Kind: api.Chars, Text: n.Text})
		default:
			out = append(out, api.Token{Kind: api.Begin, Name: n.Name, Attrs: n.Attrs})
			out = append(out, tags(n.Kids)...)
			if !dom.Void(n.Name) {
				out = append(out, api.Token{Kind: api.End, Name: n.Name})
			}
		}
	}
	return out
}

// P5.3: what written nodes are is told as their tags.
func TestWritten(t *testing.T) {
	hold := func(l ...api.Node) {
		t.Helper()
		s := write.Text(l)
		if got, want := token.Tokens(s), tags(l); !same(got, want) {
			t.Fatalf("%q: %s, not %s", s, show(got...), show(want...))
		}
		for _, n := range l {
			if n.Kind != api.Element {
				continue
			}
			begin, size := token.Tag(write.Open(n) + "x>")
			if !same([]api.Token{begin}, tags([]api.Node{n})[:1]) || size != len(write.Open(n)) {
				t.Fatalf("%q: %s %d", write.Open(n), show(begin), size)
			}
			if end, size := token.Tag(write.Close(n)); !dom.Void(n.Name) && show(end) != "</"+n.Name+">" || size != len(write.Close(n)) {
				t.Fatalf("%q: %s %d", write.Close(n), show(end), size)
			}
		}
	}
	hold()
	for _, a := range nodes() {
		if e := dom.May([]api.Node{a}); e != api.OK {
			t.Fatal(write.Text([]api.Node{a}), e)
		}
		hold(a)
		for _, b := range nodes() {
			hold(a, b)
			for _, c := range nodes() {
				hold(a, b, c)
				hold(api.Node{Kind: api.Element, Name: "u", Kids: []api.Node{a, {Kind: api.Element, Name: "td", Kids: []api.Node{b}}, c}})
			}
		}
	}
}

// P5.3: each character, in a text, a value, a comment, a raw element, an attribute's name.
func TestWrittenCharacters(t *testing.T) {
	for _, c := range characters() {
		text := []api.Node{{Kind: api.Text, Text: c}}
		n := api.Node{Kind: api.Element, Name: "b", Attrs: []api.Attr{{Name: "x", Value: c}}, Kids: text}
		if dom.Attributed(c) {
			n.Attrs = append(n.Attrs, api.Attr{Name: c + "-", Value: c})
		}
		l := []api.Node{n, {Kind: api.Comment, Text: c}, {Kind: api.Element, Name: "style", Kids: text}}
		s := write.Text(l)
		if got, want := token.Tokens(s), tags(l); !same(got, want) {
			t.Errorf("%q: %s, not %s", s, show(got...), show(want...))
		}
	}
}

// P5.1, P5.2: long texts are told in time: nothing is looked at again and again.
func TestLong(t *testing.T) {
	const many = 1 << 19
	for _, x := range []struct {
		head, piece, tail string
		count             int
	}{
		{"", "x", "", 1}, {"", "<", "", 1}, {"", "< ", "", 1}, {"", "&", "", 1}, {"", "&lt;", "", 1}, {"", "<!", ">", 1}, {"", "<!-- ", "", 1}, {"", "</>", "", 0}, {"", "</ ", "", 1},
		{"", "<b>", "", many}, {"", "<b c=d>", "", many}, {"", "</b>", "", many}, {"", "<!>", "", many}, {"", "<!--x-->", "", many}, {"", "x<b>", "", 2 * many}, {"", "&lt;<b>", "", 2 * many},
		{"", "<a", "", 0}, {"", "<a ", "", 0}, {"<a", "b", "", 0}, {"<a", " b", "", 0}, {"<a", "=", "", 0}, {"<a ", "b='", "", 0}, {"<a b=", " ", "", 0}, {"<a b=\"", "<b>'", "", 0}, {"</a", "</a", "", 0},
		{"<a ", "b=c ", ">", 1}, {"<a ", "b", ">", 1}, {"<a b='", "&amp;", "'>", 1}, {"<a b", " ", "=c>", 1}, {"</a", " ", ">", 1}, {"<!--", "-- ", "-->", 1}, {"<!--", "->", "", 1},
		{"<script>", "</script", "", 2}, {"<script>", "</style>", "</script>", 3}, {"", "<script></script>", "", 2 * many}, {"", "<style>x</style >", "", 3 * many}, {"", "<script>x</script></style>", "", 4 * many}, {"<script>", "<", "", 2},
	} {
		s := x.head + strings.Repeat(x.piece, many) + x.tail
		if got := len(token.Tokens(s)); got != x.count {
			t.Errorf("%q, %q, %q: %d tokens, not %d", x.head, x.piece, x.tail, got, x.count)
		}
		if got, want := token.Ends(s, "script") >= 0, strings.Contains(s, "</script>"); got != want {
			t.Errorf("%q, %q, %q: the raw element ends: %v", x.head, x.piece, x.tail, got)
		}
	}
	for _, name := range []string{strings.Repeat("</", many/2), strings.Repeat("</a", many/2) + "b", strings.Repeat("a", many)} {
		s := strings.Repeat("</"+name, 3)
		if token.Ends(s, name) != -1 || token.Ends(s+" ", name) != 2*(2+len(name)) {
			t.Errorf("%q..: where it ends", name[:4])
		}
	}
}

// P5.1: a tag of many attributes, with as many of the same names behind them.
func TestManyAttributes(t *testing.T) {
	const many = 200000
	var out strings.Builder
	var want []api.Attr
	for i := range 2 * many {
		name := "X" + strconv.Itoa(i%many)
		out.WriteString(" " + name + "=" + strconv.Itoa(i))
		if i < many {
			want = append(want, api.Attr{Name: lower(name), Value: strconv.Itoa(i)})
		}
	}
	l := token.Tokens("<A" + out.String() + ">")
	if len(l) != 1 || l[0].Kind != api.Begin || l[0].Name != "a" || !slices.Equal(l[0].Attrs, want) {
		t.Errorf("%d tokens", len(l))
	}
}

// R4, R5 of P5.1 and P5.2: what is told shares nothing, and is told again as the same.
func TestOwn(t *testing.T) {
	const s = "<b c=1 d=2><b c=1 d=2 e>x</b>&lt;<!--y-->"
	first := token.Tokens(s)
	before := show(first...)
	for i := range first {
		for k := range first[i].Attrs[:cap(first[i].Attrs)] {
			first[i].Attrs[:cap(first[i].Attrs)][k] = api.Attr{Name: strconv.Itoa(i)}
		}
		first[i].Kind = 0
	}
	if got := show(token.Tokens(s)...); got != before {
		t.Errorf("%s, not %s", got, before)
	}
	l := token.Tokens(s)
	for i := range l {
		l[i].Attrs = append(l[i].Attrs, api.Attr{Name: "z"})
	}
	if got, want := show(l[1]), `<b c="1" d="2" e="" z="">`; got != want {
		t.Errorf("%s, not %s", got, want)
	}
	a, _ := token.Tag(s)
	b, _ := token.Tag(s)
	a.Attrs[0].Value = "z"
	if got, want := show(b), `<b c="1" d="2">`; got != want {
		t.Errorf("%s, not %s", got, want)
	}
}
