package build_test

import (
	"math/rand/v2"
	"reflect"
	"slices"
	"strconv"
	"strings"
	"testing"

	"strainer/api"
	"strainer/build"
	"strainer/dom"
	"strainer/model"
	"strainer/sample"
	"strainer/token"
	"strainer/write"
)

var (
	text, comment, el, list = sample.Text, sample.Comment, sample.Element, sample.List
	with, holding, whole    = sample.With, sample.Holding, sample.Whole
)

// said is a token, said as one word: `+` begins an element of the name behind it, `-` ends one, `'` is ahead of characters, `!` ahead of a comment, `?` ahead of what a token of another Kind has as its Name and Text.
func said(word string) api.Token {
	rest := word[1:]
	switch word[0] {
	case '+':
		return api.Token{Kind: api.Begin, Name: rest}
	case '-':
		return api.Token{Kind: api.End, Name: rest}
	case '\'':
		return api.Token{Kind: api.Chars, Text: rest}
	case '!':
		return api.Token{Kind: api.Remark, Text: rest}
	}
	return api.Token{Kind: 5, Name: rest, Text: rest}
}

// row is tokens, said as words.
func row(words string) []api.Token {
	var out []api.Token
	for _, word := range strings.Fields(words) {
		out = append(out, said(word))
	}
	return out
}

// handed is tokens as nodes of the same fields, so that what looks at nodes, and at their memory, looks at them.
func handed(l []api.Token) []api.Node {
	var out []api.Node
	for _, t := range l {
		out = append(out, api.Node{Kind: t.Kind, Name: t.Name, Attrs: t.Attrs, Text: t.Text})
	}
	return out
}

// shown is all that tokens tell, as one text.
func shown(l []api.Token) string { return whole(handed(l)) }

// state is what a builder is to be: all nodes, and the names of the open elements. An open one is always the last node where it stands.
type state struct {
	nodes []api.Node
	open  []string
}

// there is nodes with those that stand where the innermost of some open elements is, changed.
func there(l []api.Node, deep int, change func([]api.Node) []api.Node) []api.Node {
	if deep == 0 {
		return change(l)
	}
	last := &l[len(l)-1]
	last.Kids = there(last.Kids, deep-1, change)
	return l
}

// put is what becomes of a builder by a token, as the chapter says it.
func (s *state) put(t api.Token) {
	add := func(n api.Node) {
		s.nodes = there(s.nodes, len(s.open), func(l []api.Node) []api.Node {
			if last := len(l) - 1; n.Kind == api.Text && last >= 0 && l[last].Kind == api.Text {
				l[last].Text += n.Text
				return l
			}
			return append(l, n)
		})
	}
	switch t.Kind {
	case api.Begin:
		for len(s.open) > 0 && model.Closes(s.open[len(s.open)-1], t.Name) {
			s.open = s.open[:len(s.open)-1]
		}
		add(api.Node{Kind: api.Element, Name: t.Name, Attrs: slices.Clone(t.Attrs)})
		if !dom.Void(t.Name) {
			s.open = append(s.open, t.Name)
		}
	case api.End:
		for i, name := range slices.Backward(s.open) {
			if name == t.Name {
				s.open = s.open[:i]
				return
			}
		}
	case api.Chars:
		if t.Text != "" {
			add(text(t.Text))
		}
	case api.Remark:
		add(comment(t.Text))
	}
}

// path is names, each with a `/` ahead of it.
func path(names []string) string {
	out := ""
	for _, name := range names {
		out += "/" + name
	}
	return out
}

// built is what is to become of tokens.
func built(l []api.Token) state {
	var s state
	for _, t := range l {
		s.put(t)
	}
	return s
}

// follow builds tokens, with all told behind each one, and tells whether it was as it is to be.
func follow(t *testing.T, l []api.Token) {
	t.Helper()
	var s state
	b := build.New()
	for i := range len(l) + 1 {
		if got, want := whole(b.Nodes()), whole(s.nodes); got != want {
			t.Fatalf("%s: %s, not %s", shown(l[:i]), got, want)
		}
		if got := b.Open(); !slices.Equal(got, s.open) {
			t.Fatalf("%s: open are %q, not %q", shown(l[:i]), got, s.open)
		}
		if i < len(l) {
			b.Put(l[i])
			s.put(l[i])
		}
	}
}

// hold builds tokens, with nothing told ahead of the last one, and tells whether all was as it is to be.
func hold(t *testing.T, l []api.Token) {
	t.Helper()
	s := built(l)
	if got, want := whole(build.Tree(l)), whole(s.nodes); got != want {
		t.Fatalf("%s: %s, not %s", shown(l), got, want)
	}
	b := build.New()
	for _, x := range l {
		b.Put(x)
	}
	if got := b.Open(); !slices.Equal(got, s.open) {
		t.Fatalf("%s: open are %q, not %q", shown(l), got, s.open)
	}
	if got, want := whole(b.Nodes()), whole(s.nodes); got != want {
		t.Fatalf("%s: %s, not %s", shown(l), got, want)
	}
}

// P7.1: what is built of tokens, and what is open then.
func TestBuilt(t *testing.T) {
	for _, x := range []struct {
		words string
		nodes []api.Node
		open  string
	}{
		{"", nil, ""},
		// Begin
		{"+b", list(el("b")), "/b"}, {"+b +b", list(el("b", el("b"))), "/b/b"}, {"+b +i +u", list(el("b", el("i", el("u")))), "/b/i/u"},
		{"+p +p", list(el("p"), el("p")), "/p"}, {"+p 'x +div", list(el("p", text("x")), el("div")), "/div"}, {"+div +p +div", list(el("div", el("p"), el("div"))), "/div/div"},
		{"+p +b +p", list(el("p", el("b", el("p")))), "/p/b/p"}, {"+p +b +div", list(el("p", el("b", el("div")))), "/p/b/div"}, {"+div +div", list(el("div", el("div"))), "/div/div"},
		{"+p +h1", list(el("p"), el("h1")), "/h1"}, {"+p +h2", list(el("p"), el("h2")), "/h2"}, {"+p +h3", list(el("p", el("h3"))), "/p/h3"}, {"+p +blockquote +p +ul", list(el("p"), el("blockquote", el("p"), el("ul"))), "/blockquote/ul"}, {"+p +pre", list(el("p"), el("pre")), "/pre"}, {"+p +ol", list(el("p"), el("ol")), "/ol"}, {"+p +table", list(el("p"), el("table")), "/table"},
		{"+ul +li '1 +li '2", list(el("ul", el("li", text("1")), el("li", text("2")))), "/ul/li"}, {"+ul +li +ul +li +li", list(el("ul", el("li", el("ul", el("li"), el("li"))))), "/ul/li/ul/li"}, {"+li +b +li", list(el("li", el("b", el("li")))), "/li/b/li"},
		{"+dl +dt +dd +dd +dt", list(el("dl", el("dt"), el("dd"), el("dd"), el("dt"))), "/dl/dt"}, {"+dt +dl +dd", list(el("dt", el("dl", el("dd")))), "/dt/dl/dd"}, {"+select +option +option", list(el("select", el("option"), el("option"))), "/select/option"},
		{"+table +tr +td +td +tr +td", list(el("table", el("tr", el("td"), el("td")), el("tr", el("td")))), "/table/tr/td"}, {"+td +tr", list(el("td"), el("tr")), "/tr"}, {"+tr +td", list(el("tr", el("td"))), "/tr/td"}, {"+tr +td +table +tr +td", list(el("tr", el("td", el("table", el("tr", el("td")))))), "/tr/td/table/tr/td"},
		// more than one is closed, from the innermost on, up to the first that is not
		{"+tr +td +tr", list(el("tr", el("td")), el("tr")), "/tr"}, {"+li +p +li", list(el("li", el("p")), el("li")), "/li"}, {"+li +p +ul", list(el("li", el("p"), el("ul"))), "/li/ul"}, {"+tr +td +p +tr", list(el("tr", el("td", el("p", el("tr"))))), "/tr/td/p/tr"}, {"+dd +p +dd", list(el("dd", el("p", el("dd")))), "/dd/p/dd"}, {"+b +li +p 'x +li", list(el("b", el("li", el("p", text("x"))), el("li"))), "/b/li"}, {"+li +b +p +li", list(el("li", el("b", el("p"), el("li")))), "/li/b/li"},
		// void ones
		{"+br", list(el("br")), ""}, {"+br 'x +br", list(el("br"), text("x"), el("br")), ""}, {"+b +img +input 'x +wbr !c", list(el("b", el("img"), el("input"), text("x"), el("wbr"), comment("c"))), "/b"}, {"+p +hr", list(el("p"), el("hr")), ""}, {"+p +br +hr 'x", list(el("p", el("br")), el("hr"), text("x")), ""}, {"+b +p +hr +i", list(el("b", el("p"), el("hr"), el("i"))), "/b/i"},
		{"+br -br", list(el("br")), ""}, {"-br", nil, ""}, {"+b +br -br 'x", list(el("b", el("br"), text("x"))), "/b"}, {"+hr +hr +p", list(el("hr"), el("hr"), el("p")), "/p"}, {"+BR 'x", list(el("BR", text("x"))), "/BR"}, {"+br- +br", list(el("br-", el("br"))), "/br-"},
		// raw ones are as others
		{"+script 'x +b -script", list(el("script", text("x"), el("b"))), ""}, {"+style !c +style", list(el("style", comment("c"), el("style"))), "/style/style"},
		// End
		{"-b", nil, ""}, {"+b -b", list(el("b")), ""}, {"+b -b -b 'x", list(el("b"), text("x")), ""}, {"+b -b 'x", list(el("b"), text("x")), ""}, {"+b +i -b 'x", list(el("b", el("i")), text("x")), ""}, {"+b +i -i 'x", list(el("b", el("i"), text("x"))), "/b"}, {"+b +i -u 'x", list(el("b", el("i", text("x")))), "/b/i"},
		{"+b +b -b 'x", list(el("b", el("b"), text("x"))), "/b"}, {"+b +b -b -b 'x", list(el("b", el("b")), text("x")), ""}, {"+b +i +b +u -b 'x", list(el("b", el("i", el("b", el("u")), text("x")))), "/b/i"}, {"+b +i +b +u -b -b 'x", list(el("b", el("i", el("b", el("u")))), text("x")), ""}, {"+b +i +b +u -i -i 'x", list(el("b", el("i", el("b", el("u"))), text("x"))), "/b"}, {"+b +i +b +u -i +b -b -b", list(el("b", el("i", el("b", el("u"))), el("b"))), ""},
		{"+p +p -p -p 'x", list(el("p"), el("p"), text("x")), ""}, {"+p +div -p 'x", list(el("p"), el("div", text("x"))), "/div"}, {"+ul +li +li -li -li 'x", list(el("ul", el("li"), el("li"), text("x"))), "/ul"}, {"+b -B 'x", list(el("b", text("x"))), "/b"}, {"+b -bb 'x", list(el("b", text("x"))), "/b"}, {"+bb -b 'x", list(el("bb", text("x"))), "/bb"},
		{"-", nil, ""}, {"- 'x", list(text("x")), ""}, {"+b - 'x", list(el("b", text("x"))), "/b"}, {"+b + 'x - 'y", list(el("b", el("", text("x")), text("y"))), "/b"},
		// Chars
		{"'x", list(text("x")), ""}, {"'x 'y", list(text("xy")), ""}, {"'x ' 'y '", list(text("xy")), ""}, {"'", nil, ""}, {"' '", nil, ""}, {"+b ' -b '", list(el("b")), ""}, {"+b 'x 'y -b 'z", list(el("b", text("xy")), text("z")), ""}, {"'a +b 'b -b 'c", list(text("a"), el("b", text("b")), text("c")), ""}, {"'a +br 'b", list(text("a"), el("br"), text("b")), ""},
		{"'x -b 'y", list(text("xy")), ""}, {"+b 'x -i 'y -b 'z -b 'u", list(el("b", text("xy")), text("zu")), ""}, {"+b 'x +i -i 'y", list(el("b", text("x"), el("i"), text("y"))), "/b"}, {"+p 'x +p 'y", list(el("p", text("x")), el("p", text("y"))), "/p"}, {"'x +p 'y +hr 'z", list(text("x"), el("p", text("y")), el("hr"), text("z")), ""}, {"'\xe2 '\x82 '\xac", list(text("\u20ac")), ""}, {"'&lt; '</b>", list(text("&lt;</b>")), ""}, {"'\xff\x00", list(text("\xff\x00")), ""},
		// Remark
		{"!c", list(comment("c")), ""}, {"!", list(comment("")), ""}, {"! !", list(comment(""), comment("")), ""}, {"'x !c 'y", list(text("x"), comment("c"), text("y")), ""}, {"'x ! 'y", list(text("x"), comment(""), text("y")), ""}, {"+b !c", list(el("b", comment("c"))), "/b"}, {"+p !c +p", list(el("p", comment("c")), el("p")), "/p"}, {"+b !c -b !d", list(el("b", comment("c")), comment("d")), ""}, {"!a--> !\xff", list(comment("a-->"), comment("\xff")), ""}, {"+br !c", list(el("br"), comment("c")), ""},
		// another Kind
		{"?x", nil, ""}, {"?p ?b", nil, ""}, {"+b ?b ?x 'x", list(el("b", text("x"))), "/b"}, {"'x ?y 'z", list(text("xz")), ""}, {"+p ?div", list(el("p")), "/p"},
		// names that may not be
		{"+P +P +DIV", list(el("P", el("P", el("DIV")))), "/P/P/DIV"}, {"+p +DIV", list(el("p", el("DIV"))), "/p/DIV"}, {"+#text +1 +\xff", list(el("#text", el("1", el("\xff")))), "/#text/1/\xff"}, {"+a<b> -a<b> 'x", list(el("a<b>"), text("x")), ""}, {"+ + -", list(el("", el(""))), "/"}, {"+ +p +", list(el("", el("p", el("")))), "//p/"},
	} {
		l := row(x.words)
		if got := build.Tree(l); whole(got) != whole(x.nodes) {
			t.Errorf("%q: %s, not %s", x.words, whole(got), whole(x.nodes))
		}
		b := build.New()
		for _, x := range l {
			b.Put(x)
		}
		if got := path(b.Open()); got != x.open || whole(b.Nodes()) != whole(x.nodes) {
			t.Errorf("%q: open is %q, not %q", x.words, got, x.open)
		}
		if want := built(l); whole(want.nodes) != whole(x.nodes) || path(want.open) != x.open {
			t.Errorf("the test itself: %q", x.words)
		}
		follow(t, l)
	}
}

// P7.1: names and Attrs go as they are, whether they may be or not; fields that a token's Kind does not name are not looked at.
func TestFields(t *testing.T) {
	attrs := []api.Attr{{Name: "x", Value: "1"}, {Name: "X", Value: ""}, {Name: "x", Value: "2"}, {Name: "", Value: "\xff<&"}, {Name: "a b=", Value: "\x00"}}
	begun := func(name string, kids ...api.Node) api.Node {
		return api.Node{Kind: api.Element, Name: name, Attrs: attrs, Kids: kids}
	}
	full := func(kind int, name, text string) api.Token {
		return api.Token{Kind: kind, Name: name, Attrs: attrs, Text: text}
	}
	for i, x := range []struct {
		l     []api.Token
		nodes []api.Node
		open  string
	}{
		{[]api.Token{full(api.Begin, "b", "t")}, list(begun("b")), "/b"},
		{[]api.Token{full(api.Begin, "br", "t"), full(api.Begin, "br", "")}, list(begun("br"), begun("br")), ""},
		{[]api.Token{full(api.Begin, "p", "t"), full(api.Begin, "p", "div"), full(api.Begin, "b", "p")}, list(begun("p"), begun("p", begun("b"))), "/p/b"},
		{[]api.Token{full(api.Begin, "b", "t"), full(api.End, "b", "i"), full(api.Begin, "i", "t")}, list(begun("b"), begun("i")), "/i"},
		{[]api.Token{full(api.Begin, "b", "i"), full(api.End, "i", "b"), full(api.End, "", "b")}, list(begun("b")), "/b"},
		{[]api.Token{full(api.Begin, "b", ""), full(api.Chars, "b", "x"), full(api.Chars, "br", ""), full(api.Chars, "", "y")}, list(begun("b", text("xy"))), "/b"},
		{[]api.Token{full(api.Begin, "p", ""), full(api.Chars, "p", "x"), full(api.Remark, "div", "p")}, list(begun("p", text("x"), comment("p"))), "/p"},
		{[]api.Token{full(api.Remark, "b", "c"), full(api.Remark, "", "")}, list(comment("c"), comment("")), ""},
		{[]api.Token{full(api.Chars, "b", "")}, nil, ""},
		{[]api.Token{{Kind: api.Begin, Name: "b", Attrs: []api.Attr{}}, {Kind: api.Begin, Name: "i", Attrs: attrs[:0]}, {Kind: api.Begin, Name: "u", Attrs: attrs[1:2]}}, list(el("b", el("i", with(el("u"), "X", "")))), "/b/i/u"},
		{[]api.Token{full(api.Begin, "b", ""), full(0, "b", "x"), full(5, "p", "x"), full(-1, "b", "x"), full(9, "b", "x"), full(1<<40+1, "i", "x"), full(1<<32+api.Begin, "i", "x"), full(-1<<63, "b", "")}, list(begun("b")), "/b"},
	} {
		follow(t, x.l)
		hold(t, x.l)
		if got := build.Tree(x.l); whole(got) != whole(x.nodes) {
			t.Errorf("%d: %s, not %s", i, whole(got), whole(x.nodes))
		}
		if got := path(built(x.l).open); got != x.open {
			t.Errorf("the test itself: %d, %s", i, got)
		}
	}
	for kind := -300; kind <= 300; kind++ {
		l := []api.Token{said("+b"), said("'x"), full(kind, "b", "y"), said("'z")}
		if kind < api.Begin || kind > api.Remark {
			if got, want := whole(build.Tree(l)), whole(list(el("b", text("xz")))); got != want {
				t.Errorf("Kind %d: %s", kind, got)
			}
		}
		hold(t, l)
	}
}

// names is names of elements, those that chapters 3 and 6 name among them, and texts that are no names.
func names() []string {
	return append(strings.Fields("a abbr b big blockquote body br caption col dd div dl dt em embed h1 h2 h3 h4 h5 h6 head hr html i img input li link meta ol optgroup option p pre script select span style table tbody td th title tr u ul wbr P LI BR Td #text * 1"), "")
}

// P7.1: each name in each other one, ended by each of the two.
func TestNames(t *testing.T) {
	for _, a := range names() {
		for _, b := range names() {
			begun := []api.Token{said("'x"), said("+" + a), said("'y"), said("+" + b), said("'z")}
			for _, ends := range []string{"", "- ", "-" + a, "-" + b, "-" + a + " -" + b, "-" + b + " -" + a, "-" + a + " -" + a, "-" + b + " 'z -" + b} {
				hold(t, append(append(begun[:5:5], row(ends)...), said("'u"), said("+"+a), said("!v")))
			}
		}
	}
}

// P7.1: names with any one byte changed are other names.
func TestNamesChanged(t *testing.T) {
	for _, name := range []string{"br", "wbr", "p", "li", "td", "div"} {
		for s := range sample.Changed(name) {
			l := []api.Token{said("+" + name), said("'x"), said("-" + s), said("'y"), said("+p"), said("+" + s), said("'z"), said("-" + name), said("'u")}
			hold(t, l)
			if got := len(build.Tree(l[:4])[0].Kids); s != name && !dom.Void(name) && got != 1 {
				t.Errorf("%q ends %q", s, name)
			}
		}
	}
}

// lists yields rows of many sorts of tokens, all of them up to some length, and long ones.
func lists(yield func([]api.Token) bool) {
	for _, x := range []struct {
		most  int
		words string
	}{
		{4, "+p +div +li +td +tr +b +br -p -div -li -tr -b -br 'x ' !c ?p"},
		{6, "+p +ul +li -ul -p 'x"}, {6, "+b 'x ' -b ?b"}, {6, "+b +i -b -i 'x +br"}, {5, "+tr +td +p -tr -td 'x"}, {5, "+ - ' ! + +p -p"},
	} {
		for l := range sample.Rows(x.most, row(x.words)...) {
			if !yield(l) {
				return
			}
		}
	}
	chance := rand.New(rand.NewPCG(7, 7))
	for range 300 {
		if !yield(long(chance, 200)) {
			return
		}
	}
}

// long is a long row, whose tokens, each with some name, are told by numbers that are always the same.
func long(chance *rand.Rand, size int) []api.Token {
	all := names()
	some := make([]string, 1+chance.IntN(8)) // few, so that ends find what they end
	for i := range some {
		some[i] = all[chance.IntN(len(all))]
	}
	var out []api.Token
	for i := range size {
		mark := []string{"+", "+", "+", "-", "-", "'", "'", "!", "?"}[chance.IntN(9)]
		t := said(mark + some[chance.IntN(len(some))])
		t.Attrs = make([]api.Attr, chance.IntN(3))
		for k := range t.Attrs {
			t.Attrs[k] = api.Attr{Name: strconv.Itoa(k), Value: strconv.Itoa(i)}
		}
		out = append(out, t)
	}
	return out
}

// P7.1: all rows.
func TestRows(t *testing.T) {
	for l := range lists {
		hold(t, l)
	}
}

// P7.1: what is told on the way changes nothing of what comes of it.
func TestOnTheWay(t *testing.T) {
	i := 0
	for l := range lists {
		if i++; i%19 == 0 {
			follow(t, l)
		}
	}
}

// kept tells whether nodes in that parent are as P7.2 says.
func kept(parent string, l []api.Node) bool {
	for i, n := range l {
		bad := n.Kind == api.Text && (n.Text == "" || i > 0 && l[i-1].Kind == api.Text)
		if bad || dom.Void(parent) || n.Kind == api.Element && model.Closes(parent, n.Name) || !kept(n.Name, n.Kids) {
			return false
		}
	}
	return true
}

// P7.2: no text of a tree is empty or stands beside another one, a void element has no kids, no kid closes its parent.
func TestKept(t *testing.T) {
	for _, l := range [][]api.Node{list(text("")), list(text("x"), text("y")), list(el("b", comment(""), text("x"), text("y"))), list(el("br", el("b"))), list(el("b"), el("b", el("hr", text("x")))), list(el("p", text("x"), el("p"))), list(el("tr", el("td", el("tr"))))} {
		if kept("", l) {
			t.Errorf("the test itself: %s", whole(l))
		}
	}
	count := 0
	for l := range lists {
		got := build.Tree(l)
		if !kept("", got) {
			t.Fatalf("%s: %s", shown(l), whole(got))
		}
		count += len(got)
	}
	if count < 100000 {
		t.Errorf("the test itself: %d", count)
	}
}

// P7.1, P7.2: stable nodes, written, are built again of their tokens; of what other nodes are written as, what is built may be, and is stable itself but for raw elements that end in their text.
func TestWritten(t *testing.T) {
	count := 0
	for l := range lists {
		nodes := build.Tree(l)
		if !model.Stable(nodes) {
			continue
		}
		count++
		s := write.Text(nodes)
		if got := build.Tree(token.Tokens(s)); whole(got) != whole(nodes) {
			t.Fatalf("%q: %s, not %s", s, whole(got), whole(nodes))
		}
	}
	if count < 10000 {
		t.Errorf("the test itself: %d", count)
	}
	for _, x := range []struct {
		s    string
		want []api.Node
	}{
		{"<p>a<div>b", list(el("p", text("a")), el("div", text("b")))},
		{"<A b=1 C>x</a >y", list(with(el("a", text("x")), "b", "1", "c", ""), text("y"))},
		{"<ul><li>1<li>2</ul>&lt;", list(el("ul", el("li", text("1")), el("li", text("2"))), text("<"))},
		{"<script><b></script><style>x", list(el("script", text("<b>")), el("style", text("x")))},
		{"a</x>b<br/>c</br>d<!---->e</>f", list(text("ab"), el("br"), text("cd"), comment(""), text("ef"))},
		{"<b><i>x</b>y</i>z", list(el("b", el("i", text("x"))), text("yz"))},
	} {
		if got := build.Tree(token.Tokens(x.s)); whole(got) != whole(x.want) {
			t.Errorf("%q: %s, not %s", x.s, whole(got), whole(x.want))
		}
	}
}

// roomy is tokens whose lists all have room to spare, with something in it.
func roomy(l []api.Token) []api.Token {
	out := append(make([]api.Token, 0, len(l)+2), l...)
	for i, n := range sample.Roomy(handed(l)) {
		out[i].Attrs = n.Attrs
	}
	return append(out, said("+spare"))[:len(l)]
}

// spoil changes tokens, and all that their lists have room for.
func spoil(l []api.Token) {
	sample.Spoil(handed(l))
	l = l[:cap(l)]
	for i := range l {
		l[i] = api.Token{Kind: 77, Name: "spoilt", Text: "spoilt"}
	}
}

// R4 of P7.1: no token that is handed in is changed, spare room and all, and a change of it, or of nodes and names that were told, is seen nowhere.
func TestOwn(t *testing.T) {
	i := 0
	for l := range lists {
		if i++; i%97 != 0 && len(l) < 100 {
			continue
		}
		l = roomy(l)
		before, room, want := slices.Clone(l[:cap(l)]), sample.Room(handed(l)), built(l)
		b := build.New()
		for _, x := range l {
			b.Put(x)
		}
		nodes, again, tree, open := b.Nodes(), b.Nodes(), build.Tree(l), b.Open()
		if sample.Shared(handed(l), nodes, again, tree) {
			t.Fatalf("%s: shared", shown(l))
		}
		for _, told := range [][]api.Node{nodes, again, tree} {
			sample.Spoil(told)
		}
		for k := range open[:cap(open)] {
			open[:cap(open)][k] = "spoilt"
		}
		if !reflect.DeepEqual(before, l[:cap(l)]) || !reflect.DeepEqual(room, sample.Room(handed(l))) {
			t.Fatalf("%s: changed, it was %s", shown(l), shown(before))
		}
		tree = build.Tree(l)
		spoil(l)
		if whole(b.Nodes()) != whole(want.nodes) || whole(tree) != whole(want.nodes) || !slices.Equal(b.Open(), want.open) {
			t.Fatalf("%s: a change is seen", shown(before))
		}
	}
}

// R4 of P7.1: what was told stays as it was when more is built, and when it is changed, what is built later is as if it had not been.
func TestToldStays(t *testing.T) {
	l := row("'a 'b +p 'c !d +b 'e +br 'f -b 'g +li 'h +li 'i +ul 'j -x 'k +tr +td 'l +tr 'm")
	b := build.New()
	var told [][]api.Node
	var open [][]string
	for i := range len(l) + 1 {
		told, open = append(told, b.Nodes()), append(open, b.Open())
		sample.Spoil(b.Nodes())
		if names := b.Open(); len(names) > 0 {
			names[0] = "spoilt"
			_ = append(names[:0:cap(names)], "spoilt")
		}
		if i < len(l) {
			b.Put(l[i])
		}
	}
	for i := range told {
		want := built(l[:i])
		if whole(told[i]) != whole(want.nodes) || !slices.Equal(open[i], want.open) {
			t.Errorf("%s: %s, open are %q", shown(l[:i]), whole(told[i]), open[i])
		}
	}
	if sample.Shared(told...) {
		t.Error("shared")
	}
}

// R5 of P7.1: builders side by side know nothing of one another, and the same tokens are built the same.
func TestSideBySide(t *testing.T) {
	a, b := row("+p 'x +ul +li 'y +li -ul 'z"), row("'u +b -p +i -ul !v 'w +p")
	one, two, none := build.New(), build.New(), build.New()
	for i := range a {
		one.Put(a[i])
		two.Put(b[i])
	}
	if whole(one.Nodes()) != whole(built(a).nodes) || whole(two.Nodes()) != whole(built(b).nodes) || path(one.Open()) != "" || path(two.Open()) != "/b/i/p" {
		t.Error(whole(one.Nodes()), whole(two.Nodes()), one.Open(), two.Open())
	}
	if len(none.Nodes()) > 0 || len(none.Open()) > 0 || len(build.Tree(nil)) > 0 || len(build.Tree([]api.Token{})) > 0 {
		t.Error("none")
	}
	chance := rand.New(rand.NewPCG(1, 1))
	l := long(chance, 1000)
	want := whole(build.Tree(l))
	for range 20 {
		if whole(build.Tree(l)) != want {
			t.Fatal("another one")
		}
	}
}

// P7.1: elements as deep as the document's bound, ends that end none of them, and all that is told of them.
func TestDeep(t *testing.T) {
	const deep, many = 10000, 1000000
	b := build.New()
	begin := with(el("b"), "x", "1")
	for range deep {
		b.Put(api.Token{Kind: api.Begin, Name: "b", Attrs: begin.Attrs})
	}
	if got := b.Open(); len(got) != deep || got[0] != "b" || got[deep-1] != "b" || !dom.Same(b.Nodes(), sample.Chain(deep)) {
		t.Error("begun")
	}
	for range many {
		b.Put(said("-i"))
		b.Put(said("'x"))
	}
	inner := text(strings.Repeat("x", many))
	if !dom.Same(b.Nodes(), sample.Chain(deep, inner)) {
		t.Error("ends of none")
	}
	for range deep / 2 {
		b.Put(said("-b"))
	}
	b.Put(said("'y"))
	want := func(half, rest int) []api.Node {
		return sample.Chain(half, append(sample.Chain(rest, inner), text("y"))...)
	}
	if !dom.Same(b.Nodes(), want(deep/2, deep/2)) || len(b.Open()) != deep/2 {
		t.Error("half")
	}
	for range deep {
		b.Put(said("-b"))
	}
	b.Put(said("!z"))
	if !dom.Same(b.Nodes(), append(want(deep/2, deep/2), comment("z"))) || len(b.Open()) != 0 {
		t.Error("ended")
	}
	cells := slices.Repeat(row("+tr +td +table"), deep/3)
	if got := build.Tree(append(cells, row("+p +tr -table -tr 'x")...)); dom.Weight(got) != 3*(deep/3)+3 {
		t.Error(dom.Weight(got))
	}
	one := build.Tree(append(slices.Concat(row("+u"), slices.Repeat(row("+b"), deep-1)), row("-u 'x")...))
	if len(one) != 2 || one[1].Text != "x" || dom.Weight(one) != deep+1 {
		t.Error("all at once")
	}
}

// P7.1: many tokens side by side are built in time: nothing is put together again and again.
func TestLong(t *testing.T) {
	const many = 100000
	for _, x := range []struct {
		words string
		nodes []api.Node
	}{
		{"+b -b", list(el("b"))}, {"+br 'x", list(el("br"), text("x"))}, {"+p 'x", list(el("p", text("x")))}, {"!c", list(comment("c"))}, {"+b +p 'x +br -b 'y", list(el("b", el("p", text("x"), el("br"))), text("y"))}, {"+tr +td +td", list(el("tr", el("td"), el("td")))},
	} {
		l := slices.Repeat(row(x.words), many)
		if got, want := build.Tree(l), slices.Repeat(x.nodes, many); !dom.Same(got, want) {
			t.Errorf("%q: %d nodes", x.words, len(got))
		}
		got := build.Tree(append(row("+ul"), l...))
		if want := list(el("ul", slices.Repeat(x.nodes, many)...)); !dom.Same(got, want) {
			t.Errorf("in ul, %q: %d nodes", x.words, len(got[0].Kids))
		}
	}
	if got, want := build.Tree(slices.Repeat(row("'x ' -b ?c 'y"), many)), list(text(strings.Repeat("xy", many))); !dom.Same(got, want) {
		t.Errorf("characters: %d nodes", len(got))
	}
	var all []api.Token
	for i := range 9000 {
		all = append(all, said("+n"+strconv.Itoa(i)))
	}
	for range 100 {
		for i := range 9000 {
			all = append(all, said("-m"+strconv.Itoa(i)))
		}
	}
	if got := build.Tree(append(all, row("-n4000 'x")...)); dom.Weight(got) != 9001 {
		t.Errorf("names: %d", dom.Weight(got))
	}
	far := api.Token{Kind: api.Begin, Name: strings.Repeat("b", many), Attrs: slices.Repeat([]api.Attr{{Name: "x", Value: "1"}}, many)}
	if got := build.Tree([]api.Token{far, said("-b"), far}); len(got) != 1 || len(got[0].Attrs) != many || len(got[0].Kids) != 1 || got[0].Kids[0].Name != far.Name {
		t.Errorf("a long name: %d nodes", len(got))
	}
}
