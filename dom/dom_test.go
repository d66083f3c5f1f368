package dom_test

import (
	"reflect"
	"regexp"
	"slices"
	"strconv"
	"strings"
	"testing"
	"unicode/utf8"

	"strainer/api"
	"strainer/dom"
	"strainer/sample"
)

var (
	text, comment, el, list = sample.Text, sample.Comment, sample.Element, sample.List
	with, holding, chain    = sample.With, sample.Holding, sample.Chain
	roomy, room, spoil      = sample.Roomy, sample.Room, sample.Spoil
	whole, changed          = sample.Whole, sample.Changed
)

// called is a node with a name, whatever its Kind.
func called(n api.Node, name string) api.Node {
	n.Name = name
	return n
}

// pool is nodes that may be, and nodes that may not, each for one reason or for several.
func pool() []api.Node {
	empty := text("x")
	empty.Attrs, empty.Kids = []api.Attr{}, []api.Node{}
	titled := el("b")
	titled.Text = "t"
	return []api.Node{
		text("x"), text("y"), text(""), text("a\r"), empty,
		comment(""), comment("c"), comment("\xff"),
		el("b"), el("i", text("k"), el("u", text("v"))), el("br", text("k")), el("A"), el("", text("")),
		with(el("b"), "id", "1"), with(el("b"), "id", "2", "x", ""), with(el("b"), "x", "", "id", "2"),
		with(el("b"), "id", "1", "id", "1"), with(el("b"), "X", ""), with(el("b"), "id", "\x00"), with(el("b"), "id", "\x00", "id", ""), with(el("b"), "id", "\x00", "a b", ""), with(el("B"), "", "\r"),
		titled, with(called(titled, "T"), "X", "\xff"),
		called(text("x"), "b"), with(text("x"), "id", "1", "y", "2"), holding(text("x"), text("k"), text("k")), holding(text(""), comment("k")), with(holding(text(""), text("")), "id", "1"),
		called(comment("c"), "b"), with(comment("\r"), "id", "1"), holding(comment("c"), el("k"), text("")),
		{}, {Kind: 4, Text: "x"}, {Kind: -1, Name: "b", Kids: list(text("k"))},
	}
}

// rows yields no nodes, every row of up to three of the pool, and every two with a third one as the kid of the first, or of the second.
func rows(yield func([]api.Node) bool) {
	l := pool()
	if !yield(nil) || !yield([]api.Node{}) {
		return
	}
	for _, a := range l {
		if !yield(list(a)) {
			return
		}
		for _, b := range l {
			if !yield(list(a, b)) {
				return
			}
			for _, c := range l {
				if !yield(list(a, b, c)) || !yield(list(holding(a, c), b)) || !yield(list(a, holding(b, c))) {
					return
				}
			}
		}
	}
}

// named is an element's name's form.
var named = regexp.MustCompile(`\A[a-z][a-z0-9-]*\z`)

// attributed is what Attributed is to tell, byte by byte.
func attributed(s string) bool {
	for i := range len(s) {
		if strings.IndexByte("\x00\t\n\f\r />=ABCDEFGHIJKLMNOPQRSTUVWXYZ", s[i]) >= 0 {
			return false
		}
	}
	return s != "" && utf8.ValidString(s)
}

// P3.1: Named.
func TestNamed(t *testing.T) {
	for s, want := range map[string]bool{
		"a": true, "z": true, "h1": true, "x-1": true, "a-": true, "a--b": true, "a0123456789": true, "abcdefghijklmnopqrstuvwxyz": true,
		strings.Repeat("a", 1000): true, "no-such-name": true,
		"": false, "1": false, "1a": false, "-": false, "-a": false, "A": false, "aB": false, "a ": false, " a": false, "a\n": false, "\na": false, "a_b": false, "a:b": false, "a.b": false,
		"a/": false, "a`": false, "a{": false, "a@": false, "\u00e9": false, "a\u00e9": false, "a\u0660": false, "\u212a": false, "a\xff": false, "a\x00": false, "a\uff0d": false,
	} {
		if dom.Named(s) != want {
			t.Errorf("%q: %v", s, !want)
		}
	}
	check := func(s string) {
		if got := dom.Named(s); got != named.MatchString(s) {
			t.Errorf("%q: %v", s, got)
		}
	}
	for i := range 256 * 256 {
		check(string([]byte{byte(i >> 8), byte(i)}))
	}
	for s := range changed("a") {
		check(s)
	}
	for s := range changed("ab-1z") {
		check(s)
	}
}

// P3.1: Attributed.
func TestAttributed(t *testing.T) {
	for s, want := range map[string]bool{
		"a": true, "href": true, "data-a": true, "1": true, "-": true, "a:b": true, "\"": true, "'": true, "<": true, "a<b": true, "@": true, "[": true, "`": true, "{": true, "*": true, "_": true, "#": true, "&amp;": true,
		"\v": true, "\x01": true, "\x7f": true, "\u0085": true, "\u00a0": true, "\u2028": true, "\u00e9": true, "\u00c9": true, "\u0130": true, "\u20ac": true, "\U0001f600": true, "\ufffd": true,
		"": false, " ": false, "\t": false, "\n": false, "\f": false, "\r": false, "\x00": false, "/": false, ">": false, "=": false, "A": false, "Z": false,
		"a b": false, "a\tb": false, "a\nb": false, "a\fb": false, "a\rb": false, "a\x00b": false, "a/b": false, "a>b": false, "a=b": false, "aBc": false, "a ": false, " a": false, "a=": false, "=a": false,
		"\xff": false, "a\x80": false, "\xc3": false, "\xe2\x82": false, "\xed\xa0\x80": false, "\xc0\x80": false, "\xf4\x90\x80\x80": false,
	} {
		if dom.Attributed(s) != want {
			t.Errorf("%q: %v", s, !want)
		}
	}
	check := func(s string) {
		if got := dom.Attributed(s); got != attributed(s) {
			t.Errorf("%q: %v", s, got)
		}
	}
	for i := range 256 * 256 {
		check(string([]byte{byte(i >> 8), byte(i)}))
	}
	for s := range changed("a\u00e9\u20ac\U0001f600-") {
		check(s)
	}
	for r := range rune(1114112) {
		check(string(r))
	}
}

// P3.1: Void and Raw.
func TestVoidRaw(t *testing.T) {
	void, raw := []string{"br", "hr", "img", "input", "wbr"}, []string{"script", "style"}
	check := func(s string) {
		if dom.Void(s) != slices.Contains(void, s) || dom.Raw(s) != slices.Contains(raw, s) {
			t.Errorf("%q: %v %v", s, dom.Void(s), dom.Raw(s))
		}
	}
	for _, s := range append(void, raw...) {
		check(s)
		check(strings.ToUpper(s))
		check(strings.ToUpper(s[:1]) + s[1:])
		check("<" + s + ">")
		check(s + " ")
		check(s + s)
		for other := range changed(s) {
			check(other)
		}
	}
	for _, s := range []string{"", "a", "b", "p", "title", "textarea", "xmp", "iframe", "noscript", "plaintext", "area", "base", "col", "embed", "link", "meta", "param", "source", "track", "\u0131nput"} {
		check(s)
	}
}

// P3.1: Value.
func TestValue(t *testing.T) {
	twice := with(el("b"), "x", "1", "y", "2", "x", "3", "e", "", "X", "4", "", "5", "\xff", "6")
	for _, n := range []api.Node{twice, {Kind: api.Text, Text: "t", Attrs: twice.Attrs}, {Kind: api.Comment, Attrs: twice.Attrs}, {Kind: 9, Attrs: twice.Attrs}} {
		for _, x := range []struct {
			name, want string
			is         bool
		}{
			{"x", "1", true}, {"y", "2", true}, {"e", "", true}, {"X", "4", true}, {"", "5", true}, {"\xff", "6", true},
			{"E", "", false}, {"xy", "", false}, {"x ", "", false}, {"b", "", false}, {"1", "", false}, {"\ufffd", "", false},
		} {
			if v, is := dom.Value(n, x.name); v != x.want || is != x.is {
				t.Errorf("%q of %d: %q %v", x.name, n.Kind, v, is)
			}
		}
	}
	for _, n := range []api.Node{{}, el("x"), called(text("x"), "x"), {Kind: api.Element, Attrs: []api.Attr{}}, el("b", with(el("i"), "x", "1"))} {
		for _, name := range []string{"", "x"} {
			if v, is := dom.Value(n, name); v != "" || is {
				t.Errorf("%q: %q %v", name, v, is)
			}
		}
	}
}

// wrong is an error of a node: which node of all, which question of those that a node is asked, and what is told.
type wrong struct {
	node, question int
	e              api.Errno
}

// wrongs is all errors of nodes, in no row, and how many nodes were counted.
func wrongs(l []api.Node, count int) ([]wrong, int) {
	var out []wrong
	for i, n := range l {
		at := count
		count++
		add := func(question int, is bool, e api.Errno) {
			if is {
				out = append(out, wrong{at, question, e})
			}
		}
		element, word, last := n.Kind == api.Element, n.Kind == api.Text, 2+2*len(n.Attrs)
		add(0, n.Kind < api.Element || n.Kind > api.Comment, api.ErrKind)
		add(0, element && n.Text != "", api.ErrKind)
		add(0, !element && (n.Name != "" || len(n.Attrs) != 0 || len(n.Kids) != 0), api.ErrKind)
		add(1, element && !named.MatchString(n.Name), api.ErrName)
		for j, a := range n.Attrs {
			add(2+2*j, !attributed(a.Name), api.ErrName)
			add(3+2*j, slices.ContainsFunc(n.Attrs[:j], func(b api.Attr) bool { return b.Name == a.Name }), api.ErrTwice)
			add(last, strings.ContainsAny(a.Value, "\x00\r") || !utf8.ValidString(a.Value), api.ErrForm)
		}
		add(last, strings.ContainsAny(n.Text, "\x00\r") || !utf8.ValidString(n.Text), api.ErrForm)
		add(last, word && (n.Text == "" || i > 0 && l[i-1].Kind == api.Text), api.ErrForm)
		inner, all := wrongs(n.Kids, count)
		out, count = append(out, inner...), all
	}
	return out, count
}

// may is what May is to tell.
func may(l []api.Node) api.Errno {
	first, _ := wrongs(l, 0)
	if len(first) == 0 {
		return api.OK
	}
	return slices.MinFunc(first, func(a, b wrong) int {
		if a.node != b.node {
			return a.node - b.node
		}
		return a.question - b.question
	}).e
}

// P3.2: May, of nodes that may be, and of those that have one error.
func TestMay(t *testing.T) {
	for _, x := range []struct {
		what string
		l    []api.Node
		want api.Errno
	}{
		{"nothing", nil, api.OK},
		{"an empty list", []api.Node{}, api.OK},
		{"a text", list(text("x")), api.OK},
		{"a text with all that is right", list(text("\x01\t\n\v\f <&>\"\x7f\u00e9\ufffd\U0001f600")), api.OK},
		{"an empty comment", list(comment("")), api.OK},
		{"any comment", list(comment("-->")), api.OK},
		{"comments side by side", list(comment("a"), comment("b"), comment("")), api.OK},
		{"elements side by side", list(el("b"), el("b")), api.OK},
		{"texts with an element between", list(text("x"), el("br"), text("y")), api.OK},
		{"texts with a comment between", list(text("x"), comment(""), text("y")), api.OK},
		{"texts at two levels", list(text("x"), el("b", text("y")), text("z")), api.OK},
		{"a comment behind a text", list(text("x"), comment("")), api.OK},
		{"what the markup rules out, but not this chapter", list(el("br", text("x")), el("script", el("b")), el("p", el("div"))), api.OK},
		{"empty lists in a text and an element", list(api.Node{Kind: api.Text, Text: "x", Attrs: []api.Attr{}, Kids: []api.Node{}}, api.Node{Kind: api.Element, Name: "b", Attrs: []api.Attr{}, Kids: []api.Node{}}), api.OK},
		{"attributes unlike one another", list(with(el("a"), "id", "", "x", "1", "\u00e9:\"", "\ufffd", "i", "\n")), api.OK},
		{"one name in two elements", list(with(el("a", with(el("a"), "x", "1")), "x", "1"), with(el("a"), "x", "1")), api.OK},
		{"a long name", list(with(el(strings.Repeat("a", 1000)), strings.Repeat("b", 1000), "")), api.OK},

		{"no kind", list(api.Node{}), api.ErrKind},
		{"kind 4", list(api.Node{Kind: 4}), api.ErrKind},
		{"kind -1", list(api.Node{Kind: -1}), api.ErrKind},
		{"an element of kind 4", list(api.Node{Kind: 4, Name: "b"}), api.ErrKind},
		{"a text of no kind", list(api.Node{Text: "x"}), api.ErrKind},
		{"an element with a text", list(api.Node{Kind: api.Element, Name: "b", Text: "x"}), api.ErrKind},
		{"a text with a name", list(called(text("x"), "b")), api.ErrKind},
		{"a text with an attribute", list(with(text("x"), "id", "1")), api.ErrKind},
		{"a text with a kid", list(holding(text("x"), text("y"))), api.ErrKind},
		{"a comment with a name", list(called(comment("x"), "b")), api.ErrKind},
		{"a comment with an attribute", list(with(comment("x"), "id", "1")), api.ErrKind},
		{"a comment with a kid", list(holding(comment("x"), el("b"))), api.ErrKind},

		{"no name", list(el("")), api.ErrName},
		{"a capital letter", list(el("A")), api.ErrName},
		{"a digit", list(el("1")), api.ErrName},
		{"a -", list(el("-a")), api.ErrName},
		{"an attribute without name", list(with(el("a"), "", "")), api.ErrName},
		{"an attribute with a blank", list(with(el("a"), "a b", "")), api.ErrName},
		{"an attribute with a capital letter", list(with(el("a"), "X", "")), api.ErrName},
		{"an attribute that is no UTF-8", list(with(el("a"), "\xff", "")), api.ErrName},
		{"the second attribute", list(with(el("a"), "x", "", "y=", "")), api.ErrName},

		{"one name twice", list(with(el("a"), "id", "1", "id", "1")), api.ErrTwice},
		{"one name twice, with others between", list(with(el("a"), "id", "1", "x", "", "y", "", "id", "2")), api.ErrTwice},

		{"a value with 0", list(with(el("a"), "x", "\x00")), api.ErrForm},
		{"a value with 13", list(with(el("a"), "x", "1", "y", "a\r\n")), api.ErrForm},
		{"a value that is no UTF-8", list(with(el("a"), "x", "\xff")), api.ErrForm},
		{"a value that ends within a character", list(with(el("a"), "x", "", "y", "a\xc3")), api.ErrForm},
		{"a text with 13", list(text("a\r")), api.ErrForm},
		{"a text with 0", list(text("\x00")), api.ErrForm},
		{"a text that is no UTF-8", list(text("\xed\xa0\x80")), api.ErrForm},
		{"a comment with 13", list(comment("\r\n")), api.ErrForm},
		{"a comment that is no UTF-8", list(comment("\xff")), api.ErrForm},
		{"an empty text", list(text("")), api.ErrForm},
		{"texts side by side", list(text("x"), text("y")), api.ErrForm},
		{"the same text twice", list(text("x"), text("x")), api.ErrForm},
		{"texts side by side, behind others", list(el("b"), text("x"), el("i"), text("y"), text("z")), api.ErrForm},
		{"an empty text in an element", list(el("b", el("i", text("")))), api.ErrForm},
		{"texts side by side in an element", list(el("b", el("i", text("x"), text("y")))), api.ErrForm},
	} {
		if got := dom.May(x.l); got != x.want {
			t.Errorf("%s: %v, not %v", x.what, got, x.want)
		}
		if got := dom.May(list(el("b", comment(""), el("u", x.l...), text("x")))); got != x.want {
			t.Errorf("%s, in elements: %v, not %v", x.what, got, x.want)
		}
		if may(x.l) != x.want {
			t.Errorf("%s: the test itself: %v", x.what, may(x.l))
		}
	}
}

// P3.2: May, of nodes that have several errors: the first of them.
func TestMayFirst(t *testing.T) {
	titled := el("B", text(""))
	titled.Text = "\xff"
	for _, x := range []struct {
		what string
		l    []api.Node
		want api.Errno
	}{
		{"within a node: its kind, its name", list(titled), api.ErrKind},
		{"within a node: its kind, its attributes", list(with(api.Node{Kind: 7, Name: "b"}, "X", "\r")), api.ErrKind},
		{"within a node: a text's fields, its text", list(called(text(""), "B")), api.ErrKind},
		{"within a node: a comment's fields, its text", list(with(comment("\r"), "X", "\r")), api.ErrKind},
		{"within a node: its name, a value", list(with(el("B"), "x", "\r")), api.ErrName},
		{"within a node: its name, one name twice", list(with(el("B"), "x", "", "x", "")), api.ErrName},
		{"within a node: a name, one name twice behind it", list(with(el("b"), "X", "", "y", "", "y", "")), api.ErrName},
		{"within a node: one name twice, a name behind it", list(with(el("b"), "y", "", "y", "", "X", "")), api.ErrTwice},
		{"within a node: one name between two of one name", list(with(el("b"), "y", "", "X", "", "y", "")), api.ErrName},
		{"within a node: a name that may not be, twice", list(with(el("b"), "X", "", "X", "")), api.ErrName},
		{"within a node: a value, a name behind it", list(with(el("b"), "x", "\xff", "Y", "")), api.ErrName},
		{"within a node: a value, one name twice behind it", list(with(el("b"), "x", "\xff", "x", "")), api.ErrTwice},
		{"a node and its kid: its name, the kid's kind", list(el("B", api.Node{})), api.ErrName},
		{"a node and its kid: a value, the kid's name", list(with(el("b", el("B")), "x", "\r")), api.ErrForm},
		{"a node and its kid: one name twice, the kid's kind", list(with(el("b", api.Node{}), "x", "", "x", "")), api.ErrTwice},
		{"a node and its kid: a text's kid", list(holding(text(""), el("B"))), api.ErrKind},
		{"a kid and what stands behind its parent: a form, a kind", list(el("b", text("")), api.Node{}), api.ErrForm},
		{"a kid and what stands behind its parent: a name, a form", list(el("b", el("B")), text("")), api.ErrName},
		{"a kid and what stands behind its parent, deeper", list(el("b", el("i", with(el("u"), "x", "", "x", "")), el("B")), api.Node{}), api.ErrTwice},
		{"side by side: a form, a kind", list(text(""), api.Node{}), api.ErrForm},
		{"side by side: a kind, a form", list(api.Node{}, text("")), api.ErrKind},
		{"side by side: a name, a kind", list(el("B"), api.Node{}), api.ErrName},
		{"side by side: one name twice, a name", list(with(el("b"), "x", "", "x", ""), el("B")), api.ErrTwice},
		{"side by side: a text behind a text, with a field of its own", list(text("x"), called(text("y"), "b")), api.ErrKind},
		{"side by side: the third of three", list(text("x"), el("b"), api.Node{}), api.ErrKind},
	} {
		if got := dom.May(x.l); got != x.want {
			t.Errorf("%s: %v, not %v", x.what, got, x.want)
		}
		if may(x.l) != x.want {
			t.Errorf("%s: the test itself: %v", x.what, may(x.l))
		}
	}
}

// P3.2: May, of all rows.
func TestMayRows(t *testing.T) {
	for l := range rows {
		if got, want := dom.May(l), may(l); got != want {
			t.Fatalf("%s: %v, not %v", whole(l), got, want)
		}
	}
}

// P3.3: Same.
func TestSame(t *testing.T) {
	var l [][]api.Node
	for row := range rows {
		if len(row) < 2 {
			l = append(l, row)
		}
	}
	for _, n := range pool() {
		l = append(l, list(el("b", n)), list(el("b", el("i", n), text("x"))), list(n, el("b")), list(el("b"), n), list(n, n), list(holding(n)), list(holding(text("x"), n)), list(with(n, "z", "1")), list(called(n, "z")))
	}
	for _, a := range l {
		for _, b := range l {
			if got, want := dom.Same(a, b), whole(a) == whole(b); got != want {
				t.Fatalf("%s and %s: %v", whole(a), whole(b), got)
			}
		}
	}
	for row := range rows {
		if !dom.Same(row, row) || len(row) > 0 && dom.Same(row, row[1:]) {
			t.Fatalf("%s: itself, or without its first node", whole(row))
		}
	}
}

// P3.3: Same, of nodes that differ in one field, at the top, in an element, or in a text.
func TestSameFields(t *testing.T) {
	base := with(api.Node{Kind: api.Element, Name: "b", Text: "t", Kids: list(text("k"), comment("c"))}, "x", "1", "y", "2")
	for what, change := range map[string]func(n *api.Node){
		"Kind":               func(n *api.Node) { n.Kind = 2 },
		"Name":               func(n *api.Node) { n.Name = "i" },
		"Text":               func(n *api.Node) { n.Text = "u" },
		"an attribute's row": func(n *api.Node) { n.Attrs[0], n.Attrs[1] = n.Attrs[1], n.Attrs[0] },
		"an attribute less":  func(n *api.Node) { n.Attrs = n.Attrs[:1] },
		"an attribute more":  func(n *api.Node) { n.Attrs = append(n.Attrs, api.Attr{}) },
		"an attribute twice": func(n *api.Node) { n.Attrs[1] = n.Attrs[0] },
		"a Value":            func(n *api.Node) { n.Attrs[1].Value = "" },
		"an attribute":       func(n *api.Node) { n.Attrs[1].Name = "z" },
		"kids' row":          func(n *api.Node) { n.Kids[0], n.Kids[1] = n.Kids[1], n.Kids[0] },
		"a kid less":         func(n *api.Node) { n.Kids = n.Kids[:1] },
		"a kid more":         func(n *api.Node) { n.Kids = append(n.Kids, api.Node{}) },
		"no kids":            func(n *api.Node) { n.Kids = nil },
		"a kid's Text":       func(n *api.Node) { n.Kids[1].Text = "d" },
		"a kid's kid":        func(n *api.Node) { n.Kids[0].Kids = list(text("")) },
	} {
		other := roomy(list(base))[0]
		if !dom.Same(list(base), list(other)) {
			t.Fatal("a copy is not the same")
		}
		change(&other)
		for _, around := range []func(api.Node) []api.Node{
			func(n api.Node) []api.Node { return list(n) },
			func(n api.Node) []api.Node { return list(el("b"), n, text("x")) },
			func(n api.Node) []api.Node { return list(el("b", el("i", text("x"), n))) },
			func(n api.Node) []api.Node { return list(holding(text("x"), n)) },
			func(n api.Node) []api.Node { return list(holding(api.Node{Kind: 5}, n)) },
		} {
			if dom.Same(around(base), around(other)) || dom.Same(around(other), around(base)) {
				t.Errorf("%s differs: %s", what, whole(around(base)))
			}
		}
	}
	none, empty := list(el("b")), []api.Node{{Kind: api.Element, Name: "b", Attrs: []api.Attr{}, Kids: []api.Node{}}}
	if !dom.Same(none, empty) || !dom.Same(empty, none) || !dom.Same(nil, []api.Node{}) || !dom.Same([]api.Node{}, nil) || !dom.Same(nil, nil) {
		t.Error("nil and empty lists are one")
	}
	if dom.Same(nil, list(api.Node{})) || dom.Same(list(api.Node{}), nil) {
		t.Error("no nodes and one")
	}
}

// all is what All is to tell.
func all(l []api.Node) []api.Node {
	if len(l) == 0 {
		return nil
	}
	return append(append(list(l[0]), all(l[0].Kids)...), all(l[1:])...)
}

// P3.3, P3.4: Clone, Weight and All, of all rows.
func TestCloneWeightAll(t *testing.T) {
	for l := range rows {
		if got := dom.Clone(l); whole(got) != whole(l) || !dom.Same(got, l) {
			t.Fatalf("%s is cloned as %s", whole(l), whole(got))
		}
		want := all(l)
		if got := dom.All(l); whole(got) != whole(want) {
			t.Fatalf("all of %s: %s", whole(l), whole(got))
		}
		weight := len(want)
		for _, n := range want {
			weight += len(n.Attrs)
		}
		if got := dom.Weight(l); got != weight {
			t.Fatalf("%s weighs %d, not %d", whole(l), got, weight)
		}
	}
}

// P3.3, P3.4: All and Weight, in examples.
func TestWeightAll(t *testing.T) {
	for _, x := range []struct {
		l      []api.Node
		weight int
		all    string
	}{
		{nil, 0, ""},
		{[]api.Node{}, 0, ""},
		{list(with(el("a", text("x")), "x", "1")), 3, "a ;x"},
		{list(el("b", text("x"), el("i", comment("c"), el("u"))), with(el("a"), "x", "", "y", "")), 8, "b ;x;i ;c;u ;a "},
		{list(with(text("x"), "a", "", "b", ""), holding(comment("c"), text(""), with(text("y"), "a", ""))), 7, "x;c;;y"},
		{list(api.Node{}, api.Node{Kind: 9, Text: "t", Kids: list(el("b"))}), 3, ";t;b "},
	} {
		if got := dom.Weight(x.l); got != x.weight {
			t.Errorf("%s weighs %d, not %d", whole(x.l), got, x.weight)
		}
		var told []string
		for _, n := range dom.All(x.l) {
			s := n.Text
			if n.Kind == api.Element {
				s = n.Name + " "
			}
			told = append(told, s)
		}
		if got := strings.Join(told, ";"); got != x.all {
			t.Errorf("all of %s: %s", whole(x.l), got)
		}
	}
	if got := dom.All(list(el("b", el("i", text("x"))))); whole(got) != whole(list(el("b", el("i", text("x"))), el("i", text("x")), text("x"))) {
		t.Errorf("all have their kids: %s", whole(got))
	}
}

// merge is what Merge is to tell, a step at a time: an empty text goes, or two texts become one.
func merge(l []api.Node) []api.Node {
	for i, n := range l {
		if n.Kind == api.Text && n.Text == "" {
			return merge(append(slices.Clone(l[:i]), l[i+1:]...))
		}
	}
	for i := 1; i < len(l); i++ {
		if l[i-1].Kind == api.Text && l[i].Kind == api.Text {
			first := l[i-1]
			first.Text += l[i].Text
			return merge(append(append(slices.Clone(l[:i-1]), first), l[i+1:]...))
		}
	}
	return l
}

// P3.3: Merge.
func TestMerge(t *testing.T) {
	deep := el("b", text(""), text("x"), text("y"), el("i", text("")))
	first := with(called(holding(text("a"), text(""), text("k"), text("k")), "n"), "x", "1", "x", "2")
	merged := first
	merged.Text = "abc"
	for _, x := range []struct {
		what    string
		l, want []api.Node
	}{
		{"nothing", nil, nil},
		{"an empty list", []api.Node{}, nil},
		{"one text", list(text("a")), list(text("a"))},
		{"one empty text", list(text("")), nil},
		{"empty texts alone", list(text(""), text(""), text("")), nil},
		{"two texts", list(text("a"), text("b")), list(text("ab"))},
		{"three texts", list(text("a"), text("b"), text("c")), list(text("abc"))},
		{"the same text twice", list(text("a"), text("a")), list(text("aa"))},
		{"an empty one between", list(text("a"), text(""), text("b")), list(text("ab"))},
		{"empty ones everywhere", list(text(""), text("a"), text(""), text(""), text("b"), text("")), list(text("ab"))},
		{"empty ones beside elements", list(text(""), el("i"), text(""), el("u"), text("")), list(el("i"), el("u"))},
		{"an element between", list(text("a"), el("i"), text("b")), list(text("a"), el("i"), text("b"))},
		{"an empty comment stays, and parts", list(text("a"), comment(""), text("b")), list(text("a"), comment(""), text("b"))},
		{"comments side by side stay", list(comment("a"), comment("b"), comment("")), list(comment("a"), comment("b"), comment(""))},
		{"two runs", list(text("a"), text("b"), el("i"), text(""), text("c"), text("d")), list(text("ab"), el("i"), text("cd"))},
		{"kids stay", list(deep, text("a"), text(""), text("b"), deep), list(deep, text("ab"), deep)},
		{"another Kind stays, and parts", list(text("a"), api.Node{}, text("b"), api.Node{Kind: 4}, api.Node{Kind: 4, Text: "x"}), list(text("a"), api.Node{}, text("b"), api.Node{Kind: 4}, api.Node{Kind: 4, Text: "x"})},
		{"texts that are not right", list(text("\xe2\x82"), text("\xac\r"), text("\n\x00")), list(text("\u20ac\r\n\x00"))},
		{"the first one's other fields", list(first, text("b"), text("c")), list(merged)},
		{"the others' other fields", list(text("a"), called(with(holding(text("b"), el("k")), "x", ""), "n"), text("c")), list(text("abc"))},
		{"an empty text's other fields", list(with(holding(text(""), el("k")), "x", ""), text("a"), text("b")), list(text("ab"))},
		{"an empty text's other fields, behind", list(text("a"), with(holding(text(""), el("k")), "x", "")), list(text("a"))},
		{"the first that is not empty", list(text(""), first, text(""), text("bc")), list(merged)},
	} {
		if got := dom.Merge(x.l); whole(got) != whole(x.want) {
			t.Errorf("%s: %s, not %s", x.what, whole(got), whole(x.want))
		}
	}
	for l := range rows {
		if got, want := dom.Merge(l), merge(l); whole(got) != whole(want) {
			t.Fatalf("%s: %s, not %s", whole(l), whole(got), whole(want))
		}
	}
}

// answers are the calls that answer nodes.
var answers = map[string]func([]api.Node) []api.Node{"Clone": dom.Clone, "All": dom.All, "Merge": dom.Merge}

// givens yields nodes, each time new ones with room to spare.
func givens(yield func([]api.Node) bool) {
	i := 0
	for l := range rows {
		if i++; (len(l) < 2 || i%29 == 0) && !yield(roomy(l)) {
			return
		}
	}
	deep := with(el("b", text("x"), text(""), with(el("i", text("y"), text("z"), comment("c")), "x", "1")), "y", "2", "z", "3")
	held := with(holding(text("x"), deep, text(""), deep), "x", "1")
	for _, l := range [][]api.Node{list(deep), list(el("u", deep, deep)), list(text("a"), text("b"), deep, text(""), text("c")), list(held, held, text(""), held), list(holding(comment(""), held), held)} {
		if !yield(roomy(l)) {
			return
		}
	}
}

// R4 of P3.1 to P3.3: no call changes what it is handed, spare room and all.
func TestNothingChanged(t *testing.T) {
	for l := range givens {
		before := room(l)
		dom.May(l)
		dom.Same(l, l)
		dom.Weight(l)
		for _, n := range l {
			dom.Value(n, "x")
		}
		for _, call := range answers {
			call(l)
		}
		if !reflect.DeepEqual(before, room(l)) {
			t.Fatalf("changed: %s", whole(before))
		}
	}
}

// R4 of P3.3: what is answered shares no memory with what was handed in, at any depth, and no two lists of it share any: a later change of one is not seen in the other.
func TestNothingShared(t *testing.T) {
	for name, call := range answers {
		for l := range givens {
			before := room(l)
			answer := call(l)
			if sample.Shared(l, answer) {
				t.Fatalf("%s: a list is shared: %s", name, whole(l))
			}
			spoil(answer)
			if !reflect.DeepEqual(before, room(l)) {
				t.Fatalf("%s: a change of the answer is seen in what was handed in: %s", name, whole(before))
			}
			answer = call(l)
			want := whole(answer)
			spoil(l)
			if whole(answer) != want {
				t.Fatalf("%s: a change of what was handed in is seen in the answer: %s", name, want)
			}
		}
	}
}

// R4 of P3.3: each node that All tells is a clone of its own: a change of one is not seen in its kids, nor in its parent.
func TestAllOfItsOwn(t *testing.T) {
	l := list(with(el("b", with(el("i", text("x"), el("u", text("y"))), "x", "1")), "y", "2"), text("z"))
	for i := range dom.All(l) {
		got := dom.All(l)
		want := all(l)
		spoil(got[i : i+1 : i+1])
		for j := range got {
			if j != i && whole(got[j:j+1]) != whole(want[j:j+1]) {
				t.Errorf("a change of node %d is seen in node %d", i, j)
			}
		}
	}
}

// P3.2, P3.3: nodes as deep as the document's bound, and many in the innermost one.
func TestDeep(t *testing.T) {
	const deep, many = 10000, 50000
	wide := slices.Repeat(list(el("br"), text("x")), many/2)
	l := chain(deep, wide...)
	if got := dom.May(l); got != api.OK {
		t.Error(got)
	}
	if got := dom.May(append(chain(deep, append(wide, text(""))...), api.Node{})); got != api.ErrForm {
		t.Error(got)
	}
	if got := dom.Weight(l); got != 2*deep+many {
		t.Error(got)
	}
	for name, call := range map[string]func([]api.Node) []api.Node{"Clone": dom.Clone, "Merge": dom.Merge} {
		if got := call(l); !dom.Same(got, l) || dom.Same(got, chain(deep)) || dom.Same(got, chain(deep-1, wide...)) {
			t.Error(name)
		}
	}
	const less = 500
	got := dom.All(chain(less, text("x")))
	if len(got) != less+1 || got[less].Text != "x" {
		t.Fatal(len(got))
	}
	for i := range less {
		if dom.Weight(got[i:i+1]) != 2*(less-i)+1 {
			t.Errorf("node %d", i)
		}
	}
}

// P3.2, P3.3: many nodes, and many attributes, side by side.
func TestMany(t *testing.T) {
	const many = 300000
	if got := dom.Merge(slices.Repeat(list(text("x"), text("")), many)); len(got) != 1 || got[0].Text != strings.Repeat("x", many) {
		t.Error(len(got))
	}
	if got := dom.Merge(slices.Repeat(list(text("x"), el("b")), many)); len(got) != 2*many {
		t.Error(len(got))
	}
	n := el("b")
	for i := range many {
		n.Attrs = append(n.Attrs, api.Attr{Name: "a" + strconv.Itoa(i)})
	}
	if got := dom.May(list(n)); got != api.OK {
		t.Error(got)
	}
	if got := dom.May(list(with(n, "a0", ""))); got != api.ErrTwice {
		t.Error(got)
	}
	if got := dom.Weight(list(n)); got != many+1 {
		t.Error(got)
	}
}
