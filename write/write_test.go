package write_test

import (
	"reflect"
	"slices"
	"strings"
	"testing"

	"strainer/api"
	"strainer/sample"
	"strainer/write"
)

var (
	text, comment, el, list = sample.Text, sample.Comment, sample.Element, sample.List
	with, holding           = sample.With, sample.Holding
	roomy, room             = sample.Roomy, sample.Room
)

// all is every byte, each once, and characters of two to four bytes.
func all() string {
	var out strings.Builder
	for i := range 256 {
		out.WriteByte(byte(i))
	}
	return out.String() + "\u00a0\u00e9\u20ac\ufffd\U0001f600"
}

// pool is nodes of the three kinds, those that the chapter names apart among them.
func pool() []api.Node {
	titled := el("b", text("k"))
	titled.Text = "t"
	named := text("x")
	named.Name = "b"
	return []api.Node{
		text("x"), text(""), text("<b>&amp;\"'"), text("\x00\r\n\xff"), named,
		comment(""), comment("c"), comment("-->&<\">"),
		el("b"), el("i", text("<"), el("u", text("&")), comment("<")), el("A", text("\"")), el(""), titled,
		el("br"), el("img", text("lost"), el("b", text("&"))), el("BR", text("<")), with(el("input"), "value", "<\""),
		el("script"), el("style", text("<&>\""), text("&")), el("script", el("b", text("<"), el("style", text("<")), text("&"))), el("Script", text("<")), with(el("style", comment("<&")), "x", "<&>\"'"),
		with(el("b"), "id", ""), with(el("b", text("&")), "x", "1&2", "y", "<>\"'", "x", "\xff"), with(el("b"), "", "<", "A b=\"&", "\n"),
	}
}

// rows yields no nodes, every row of up to two of the pool with each of it as a kid of the first, or of the second, and every row of three of the pool's first ones.
func rows(yield func([]api.Node) bool) {
	l := pool()
	if !yield(nil) || !yield([]api.Node{}) {
		return
	}
	for _, a := range l {
		if !yield(list(a)) {
			return
		}
		for _, b := range l {
			if !yield(list(a, b)) {
				return
			}
			for _, c := range l {
				inA, inB := slices.Clone(a.Kids), slices.Clone(b.Kids)
				if !yield(list(a, b, c)) || a.Kind == api.Element && !yield(list(holding(a, append(inA, c)...), b)) || b.Kind == api.Element && !yield(list(a, holding(b, append(inB, c)...))) {
					return
				}
			}
		}
	}
}

// open is what Open is to tell of an element.
func open(n api.Node) string {
	parts := []string{"<" + n.Name}
	for _, a := range n.Attrs {
		value := strings.NewReplacer("&", "&amp;", "<", "&lt;", ">", "&gt;", `"`, "&quot;").Replace(a.Value)
		parts = append(parts, a.Name+`="`+value+`"`)
	}
	return strings.Join(parts, " ") + ">"
}

// void and raw are the void and the raw elements.
var void, raw = []string{"br", "hr", "img", "input", "wbr"}, []string{"script", "style"}

// written is what Text is to tell of nodes that are the kids of an element of that name, or of none.
func written(l []api.Node, parent string) string {
	s := ""
	for _, n := range l {
		switch {
		case n.Kind == api.Comment:
			s += "<!--" + n.Text + "-->"
		case n.Kind == api.Text && slices.Contains(raw, parent):
			s += n.Text
		case n.Kind == api.Text:
			s += strings.NewReplacer("&", "&amp;", "<", "&lt;", ">", "&gt;").Replace(n.Text)
		case slices.Contains(void, n.Name):
			s += open(n)
		default:
			s += open(n) + written(n.Kids, n.Name) + "</" + n.Name + ">"
		}
	}
	return s
}

// plain is what Plain is to tell.
func plain(l []api.Node) string {
	s := ""
	for _, n := range l {
		if n.Kind == api.Text {
			s += n.Text
		}
		s += plain(n.Kids)
	}
	return s
}

// check holds Text, Length and Plain of nodes against what they are to tell.
func check(t *testing.T, what string, l []api.Node, want string) {
	t.Helper()
	if got := write.Text(l); got != want {
		t.Errorf("%s: %q, not %q", what, got, want)
	}
	if got := write.Length(l); got != len(want) {
		t.Errorf("%s: a length of %d, not %d", what, got, len(want))
	}
	if got := write.Plain(l); got != plain(l) {
		t.Errorf("%s: plain %q, not %q", what, got, plain(l))
	}
	if written(l, "") != want {
		t.Errorf("%s: the test itself: %q", what, written(l, ""))
	}
}

// P4.1: Text and Length, of what the chapter names.
func TestText(t *testing.T) {
	for _, x := range []struct {
		what string
		l    []api.Node
		want string
	}{
		{"nothing", nil, ""},
		{"an empty list", []api.Node{}, ""},
		{"the chapter's example", list(with(el("a", text("1 < 2")), "href", "x&y")), `<a href="x&amp;y">1 &lt; 2</a>`},

		{"a text", list(text("x")), "x"},
		{"an empty text", list(text("")), ""},
		{"texts side by side", list(text("a&"), text("lt;"), text(""), text("b")), "a&amp;lt;b"},
		{"a text with all that is written otherwise", list(text(`<a b="c">&amp;'`)), `&lt;a b="c"&gt;&amp;amp;'`},
		{"a text with blanks and others", list(text(" \t\n\f/=\u00a0\u20ac")), " \t\n\f/=\u00a0\u20ac"},
		{"a text that is not right", list(text("\r\x00\xff<\xe2\x82")), "\r\x00\xff&lt;\xe2\x82"},

		{"a comment", list(comment("c")), "<!--c-->"},
		{"an empty comment", list(comment("")), "<!---->"},
		{"a comment stays unwritten", list(comment(`<b a="">&amp;`)), `<!--<b a="">&amp;-->`},
		{"a comment that would end", list(comment("a-->b--")), "<!--a-->b---->"},
		{"a comment that is not right", list(comment("\r\xff")), "<!--\r\xff-->"},
		{"comments side by side", list(comment("a"), comment("b")), "<!--a--><!--b-->"},

		{"an element", list(el("b")), "<b></b>"},
		{"a name is written as it is", list(el("A b>", text("<")), el("")), "<A b>>&lt;</A b>><></>"},
		{"an element's Text is not told", list(api.Node{Kind: api.Element, Name: "b", Text: "t"}), "<b></b>"},
		{"elements in one another", list(el("b", el("i", el("u", text("x")), text("y")), comment("z"))), "<b><i><u>x</u>y</i><!--z--></b>"},
		{"elements side by side", list(el("b"), el("b"), text("x"), el("i")), "<b></b><b></b>x<i></i>"},
		{"an element that another one's beginning closes", list(el("p", el("div", text("x")))), "<p><div>x</div></p>"},

		{"an attribute", list(with(el("b"), "id", "1")), `<b id="1"></b>`},
		{"an empty value", list(with(el("b"), "id", "")), `<b id=""></b>`},
		{"attributes in their row", list(with(el("b"), "z", "1", "a", "2", "m", "3")), `<b z="1" a="2" m="3"></b>`},
		{"one name twice", list(with(el("b"), "x", "1", "x", "2")), `<b x="1" x="2"></b>`},
		{"an attribute's name is written as it is", list(with(el("b"), "<&\"", "", "", "x", "A b", "")), `<b <&"="" ="x" A b=""></b>`},
		{"a value with all that is written otherwise", list(with(el("b"), "x", `<">&quot;'`)), `<b x="&lt;&quot;&gt;&amp;quot;'"></b>`},
		{"a value with blanks and others", list(with(el("b"), "x", " \t\n/=\u00e9\r\xff")), "<b x=\" \t\n/=\u00e9\r\xff\"></b>"},

		{"void elements", list(el("br"), el("hr"), el("img"), el("input"), el("wbr")), "<br><hr><img><input><wbr>"},
		{"a void element's attributes", list(with(el("img"), "src", "a&b", "alt", "")), `<img src="a&amp;b" alt="">`},
		{"a void element's kids", list(el("br", text("x"), el("b", text("y")), comment("z")), text("w")), "<br>w"},
		{"a void element in others", list(el("b", text("x"), el("br"), text("y"))), "<b>x<br>y</b>"},
		{"names that are no void elements'", list(el("BR"), el("br-"), el("area"), el("link", text("x"))), "<BR></BR><br-></br-><area></area><link>x</link>"},

		{"a raw element", list(el("script", text("a<b&&c>\"d\""))), "<script>a<b&&c>\"d\"</script>"},
		{"the other raw element", list(el("style", text("a>b&amp;"))), "<style>a>b&amp;</style>"},
		{"an empty raw element", list(el("script"), el("style")), "<script></script><style></style>"},
		{"a raw element's text in which it ends", list(el("script", text("</script>"))), "<script></script></script>"},
		{"a raw element's texts", list(el("style", text("<"), text(""), text("&"), el("br"), text(">"))), "<style><&<br>></style>"},
		{"a raw element's attributes", list(with(el("script", text("<")), "src", "<&>\"")), `<script src="&lt;&amp;&gt;&quot;"><</script>`},
		{"a raw element's comment", list(el("script", comment("<&"))), "<script><!--<&--></script>"},
		{"a text of an element in a raw one", list(el("style", el("b", text("<")), text("<"))), "<style><b>&lt;</b><</style>"},
		{"a raw element in another one", list(el("style", el("b", el("script", text("&")), text("&")))), "<style><b><script>&</script>&amp;</b></style>"},
		{"what stands beside a raw element", list(text("<"), el("script", text("<")), text("<")), "&lt;<script><</script>&lt;"},
		{"a raw element in an element", list(el("b", text("&"), el("style", text("&")), text("&"))), "<b>&amp;<style>&</style>&amp;</b>"},
		{"names that are no raw elements'", list(el("SCRIPT", text("<")), el("styles", text("<")), el("title", text("<")), el("textarea", text("&"))), "<SCRIPT>&lt;</SCRIPT><styles>&lt;</styles><title>&lt;</title><textarea>&amp;</textarea>"},
	} {
		check(t, x.what, x.l, x.want)
		check(t, x.what+", in an element", list(el("u", x.l...)), "<u>"+x.want+"</u>")
		check(t, x.what+", between others", append(append(list(el("b")), x.l...), comment("<")), "<b></b>"+x.want+"<!--<-->")
		check(t, x.what+", in a void element", list(el("img", x.l...)), "<img>")
	}
}

// P4.1: Text and Length, of each byte and characters of several bytes.
func TestTextBytes(t *testing.T) {
	var l []string
	for i := range 256 {
		l = append(l, string([]byte{byte(i)}))
	}
	l = append(l, all(), all()+all(), strings.Repeat("&", 100), "\u20ac", "\U0001f600", "&&lt;;", "&#38;")
	for _, s := range l {
		escaped := strings.ReplaceAll(strings.ReplaceAll(strings.ReplaceAll(s, "&", "&amp;"), "<", "&lt;"), ">", "&gt;")
		quoted := strings.ReplaceAll(escaped, `"`, "&quot;")
		check(t, "a text", list(text(s)), escaped)
		check(t, "a comment", list(comment(s)), "<!--"+s+"-->")
		check(t, "a value", list(with(el("b"), "x", s)), `<b x="`+quoted+`"></b>`)
		check(t, "an attribute's name", list(with(el("br"), s, "")), "<br "+s+`="">`)
		check(t, "a raw element's text", list(el("style", text(s))), "<style>"+s+"</style>")
		check(t, "an element's text", list(el("b", text(s))), "<b>"+escaped+"</b>")
		if s != "" {
			check(t, "a name", list(el(s+"x", text(s))), "<"+s+"x>"+escaped+"</"+s+"x>")
		}
	}
}

// P4.1: Open and Close.
func TestOpenClose(t *testing.T) {
	for _, x := range []struct {
		what        string
		n           api.Node
		ahead, back string
	}{
		{"an element", el("b"), "<b>", "</b>"},
		{"an element with kids", el("b", text("x"), el("i")), "<b>", "</b>"},
		{"an element with attributes", with(el("a", text("x")), "href", "x&y\"<>'", "id", ""), `<a href="x&amp;y&quot;&lt;&gt;'" id="">`, "</a>"},
		{"one name twice", with(el("a"), "x", "", "x", "1"), `<a x="" x="1">`, "</a>"},
		{"a void element", el("br"), "<br>", ""},
		{"a void element with kids", with(el("img", text("x"), el("b")), "src", "s"), `<img src="s">`, ""},
		{"a raw element", with(el("script", text("<")), "src", "<"), `<script src="&lt;">`, "</script>"},
		{"a name that is no void element's", el("BR"), "<BR>", "</BR>"},
		{"any name", el("A \xff<"), "<A \xff<>", "</A \xff<>"},
		{"no name", el(""), "<>", "</>"},
		{"an element with a Text", api.Node{Kind: api.Element, Name: "b", Text: "t"}, "<b>", "</b>"},
		{"a text", text("x"), "", ""},
		{"an empty text", text(""), "", ""},
		{"a text with a name and attributes", with(api.Node{Kind: api.Text, Name: "b", Text: "x"}, "id", "1"), "", ""},
		{"a comment", comment("c"), "", ""},
		{"a comment with a name", api.Node{Kind: api.Comment, Name: "b"}, "", ""},
	} {
		if got := write.Open(x.n); got != x.ahead {
			t.Errorf("%s: open %q, not %q", x.what, got, x.ahead)
		}
		if got := write.Close(x.n); got != x.back {
			t.Errorf("%s: close %q, not %q", x.what, got, x.back)
		}
	}
	for _, name := range void {
		if write.Open(el(name)) != "<"+name+">" || write.Close(el(name)) != "" {
			t.Error(name)
		}
	}
	for _, name := range raw {
		if write.Open(el(name)) != "<"+name+">" || write.Close(el(name)) != "</"+name+">" {
			t.Error(name)
		}
	}
}

// P4.1: Plain.
func TestPlain(t *testing.T) {
	for _, x := range []struct {
		what string
		l    []api.Node
		want string
	}{
		{"nothing", nil, ""},
		{"a text", list(text("x")), "x"},
		{"a text stays unwritten", list(text("<b>&amp;\"")), "<b>&amp;\""},
		{"a text that is not right", list(text("\r\x00\xff")), "\r\x00\xff"},
		{"texts side by side", list(text("a"), text(""), text("b")), "ab"},
		{"no texts", list(comment("c"), with(el("b", el("br"), comment("d")), "id", "1")), ""},
		{"an element's Text", list(api.Node{Kind: api.Element, Name: "b", Text: "t", Kids: list(text("x"))}), "x"},
		{"texts at several levels", list(text("1"), el("b", text("2"), el("i", text("3"), el("u", text("4"))), text("5")), text("6")), "123456"},
		{"a deep text ahead of one that is not", list(el("b", el("i", el("u", text("1")))), text("2")), "12"},
		{"a void element's kids", list(el("br", text("1"), el("b", text("2"))), text("3")), "123"},
		{"a raw element's text", list(el("script", text("<1"), el("b", text("&2")))), "<1&2"},
		{"comments between", list(text("1"), comment("c"), text("2")), "12"},
	} {
		if got := write.Plain(x.l); got != x.want {
			t.Errorf("%s: %q, not %q", x.what, got, x.want)
		}
		if plain(x.l) != x.want {
			t.Errorf("%s: the test itself: %q", x.what, plain(x.l))
		}
	}
}

// P4.1: all calls, of all rows.
func TestRows(t *testing.T) {
	for l := range rows {
		check(t, "a row", l, written(l, ""))
		if t.Failed() {
			t.FailNow()
		}
	}
	for _, n := range pool() {
		ahead, back := "", ""
		if n.Kind == api.Element {
			ahead = open(n)
		}
		if n.Kind == api.Element && !slices.Contains(void, n.Name) {
			back = "</" + n.Name + ">"
		}
		if write.Open(n) != ahead || write.Close(n) != back {
			t.Errorf("%q: %q %q", written(list(n), ""), write.Open(n), write.Close(n))
		}
	}
}

// P4.1, P4.2: an element's text is what stands ahead of its kids, their texts, what stands behind them.
func TestOpenTextClose(t *testing.T) {
	for l := range rows {
		for _, n := range []api.Node{with(el("b", l...), "x", "&"), el("p", l...)} {
			if got := write.Text(list(n)); got != write.Open(n)+write.Text(l)+write.Close(n) {
				t.Fatalf("%q", got)
			}
		}
	}
}

// P4.2: the text of two lists is that of both, one behind the other.
func TestTwoLists(t *testing.T) {
	for l := range rows {
		for i := range len(l) + 1 {
			a, b := l[:i], l[i:]
			if got := write.Text(l); got != write.Text(a)+write.Text(b) {
				t.Fatalf("%q: %q and %q", got, write.Text(a), write.Text(b))
			}
			if write.Length(l) != write.Length(a)+write.Length(b) || write.Plain(l) != write.Plain(a)+write.Plain(b) {
				t.Fatalf("%q: its length, or plain", write.Text(l))
			}
		}
	}
	for _, x := range [][2][]api.Node{{nil, nil}, {list(text("&")), list(text("lt;"))}, {list(el("br")), list(text("x"))}, {list(comment("-")), list(comment(">"))}, {list(el("script", text("<"))), list(text("<"))}} {
		if got := write.Text(append(slices.Clone(x[0]), x[1]...)); got != write.Text(x[0])+write.Text(x[1]) {
			t.Errorf("%q", got)
		}
	}
}

// R4, R5 of P4.1: no call changes what it is handed, spare room and all, and each tells the same again.
func TestNothingChanged(t *testing.T) {
	l := roomy(append(pool(), el("u", pool()...)))
	before := room(l)
	first := write.Text(l) + write.Plain(l)
	for _, n := range l {
		write.Open(n)
		write.Close(n)
	}
	if write.Length(l) != len(write.Text(l)) || write.Text(l)+write.Plain(l) != first {
		t.Error("not the same again")
	}
	if !reflect.DeepEqual(before, room(l)) {
		t.Error("changed")
	}
}

// R1 of P4.1: of nodes of which nothing is promised each call ends, too, and its answers agree.
func TestOtherKinds(t *testing.T) {
	odd := []api.Node{{}, {Kind: 4, Name: "b", Text: "x"}, {Kind: -1, Kids: list(text("x"))}, holding(text("x"), text("y")), holding(comment("c"), el("b")), with(api.Node{Kind: 9, Name: "br"}, "x", "1")}
	for _, n := range append(odd, el("b", odd...), el("br", odd...), el("script", odd...)) {
		if write.Length(list(n)) != len(write.Text(list(n))) {
			t.Errorf("%d %q: its length", n.Kind, n.Name)
		}
		write.Plain(list(n))
		write.Open(n)
		write.Close(n)
	}
}

// P4.1: nodes as deep as the document's bound, and many in the innermost one.
func TestDeep(t *testing.T) {
	const deep, many = 10000, 100000
	l := slices.Repeat(list(el("br"), text("<")), many)
	for range deep {
		l = list(with(el("b", l...), "x", "&"))
	}
	must := func(what string, ok bool) {
		if !ok {
			t.Error(what)
		}
	}
	want := strings.Repeat(`<b x="&amp;">`, deep) + strings.Repeat("<br>&lt;", many) + strings.Repeat("</b>", deep)
	must("Text", write.Text(l) == want)
	must("Length", write.Length(l) == len(want))
	must("Plain", write.Plain(l) == strings.Repeat("<", many))
	must("Open", write.Open(l[0]) == `<b x="&amp;">`)
	must("Close", write.Close(l[0]) == "</b>")
}

// P4.1: long texts, and many attributes.
func TestLong(t *testing.T) {
	const many = 500000
	s := strings.Repeat("&\"x", many)
	n := el("style", text(s))
	for range many {
		n.Attrs = append(n.Attrs, api.Attr{Name: "x", Value: "\""})
	}
	want := "<style" + strings.Repeat(` x="&quot;"`, many) + ">" + s + "</style>" + strings.Repeat("&amp;\"x", many)
	l := list(n, text(s))
	if write.Text(l) != want || write.Length(l) != len(want) || write.Plain(l) != s+s {
		t.Error("long")
	}
}
