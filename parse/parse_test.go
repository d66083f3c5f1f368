package parse_test

import (
	"iter"
	"math/rand/v2"
	"reflect"
	"slices"
	"strings"
	"testing"

	"strainer/api"
	"strainer/build"
	"strainer/dom"
	"strainer/model"
	"strainer/parse"
	"strainer/sample"
	"strainer/token"
	"strainer/utf"
	"strainer/write"
)

var (
	text, comment, el, list = sample.Text, sample.Comment, sample.Element, sample.List
	with, holding, whole    = sample.With, sample.Holding, sample.Whole
)

// hold parses bytes every way, and holds all of it to the promises: P8.1 by the calls of the chapters that it names, P8.2, P8.3, and T3 of what is told.
func hold(t *testing.T, b []byte) []api.Node {
	t.Helper()
	s := utf.Right(b)
	l := build.Tree(token.Tokens(s))
	if got := parse.Bytes(b); !dom.Same(got, l) {
		t.Fatalf("%q: %s, not %s", b, whole(got), whole(l))
	}
	if got := parse.Text(s); !dom.Same(got, l) {
		t.Fatalf("the text %q: %s, not %s", s, whole(got), whole(l))
	}
	if dom.May(l) != api.OK || !model.Stable(l) || !parse.Keeps(l) {
		t.Fatalf("%q: %s does not stay: %v", b, whole(l), dom.May(l))
	}
	if got := parse.Again(l); !dom.Same(got, l) {
		t.Fatalf("%q: %s, and again %s", b, whole(l), whole(got))
	}
	settled(t, b, l)
	return l
}

// settled settles bytes, whose nodes are told, and holds their text to P8.2 and T3: it stays, is what its nodes are written as, and is told again as it is.
func settled(t *testing.T, b []byte, l []api.Node) {
	t.Helper()
	want := write.Text(l)
	got, n := parse.Settle(b)
	if got != want || n != 0 {
		t.Fatalf("%q settles as %q, %d, not %q", b, got, n, want)
	}
	if again, n := parse.Settle([]byte(got)); again != got || n != 0 {
		t.Fatalf("%q settles as %q, and this one as %q, %d", b, got, again, n)
	}
	if again := parse.Bytes([]byte(got)); !dom.Same(again, l) || write.Text(again) != got {
		t.Fatalf("%q settles as %q, which is %s, not %s", b, got, whole(again), whole(l))
	}
}

// document is bytes, what they are parsed as, and the text that this is written as.
type document struct {
	b    string
	l    []api.Node
	text string
}

// documents is documents of all that the chapters name.
func documents() []document {
	return []document{
		{"", nil, ""},
		{"x", list(text("x")), "x"},
		{"<p>a<div>b", list(el("p", text("a")), el("div", text("b"))), "<p>a</p><div>b</div>"},
		{"<A b=1 C>x</a >", list(with(el("a", text("x")), "b", "1", "c", "")), `<a b="1" c="">x</a>`},
		// bytes made right
		{"a\r\nb\rc\nd\r\r\ne", list(text("a\nb\nc\nd\n\ne")), "a\nb\nc\nd\n\ne"},
		{"a\x00b\xffc\xc3", list(text("a\ufffdb\ufffdc\ufffd")), "a\ufffdb\ufffdc\ufffd"},
		{"<b\x00>x", list(with(el("b", text("x")), "\ufffd", "")), "<b \ufffd=\"\">x</b>"},
		{"<b\xff=\xfe>x", list(with(el("b", text("x")), "\ufffd", "\ufffd")), "<b \ufffd=\"\ufffd\">x</b>"},
		{"<b\r\nx\r=\r\n1\r\n>\r\n", list(with(el("b", text("\n")), "x", "1")), "<b x=\"1\">\n</b>"},
		{"<b x='\r\n\x00'>", list(with(el("b"), "x", "\n\ufffd")), "<b x=\"\n\ufffd\"></b>"},
		{"<!--\r\n\xff-->", list(comment("\n\ufffd")), "<!--\n\ufffd-->"},
		{"<script>\r\n\x00\xff</script>", list(el("script", text("\n\ufffd\ufffd"))), "<script>\n\ufffd\ufffd</script>"},
		{"<\x00b>", list(text("<\ufffdb>")), "&lt;\ufffdb&gt;"},
		{"<b\xe2\x82\xac=\xe2\x82>", list(with(el("b"), "\u20ac", "\ufffd\ufffd")), "<b \u20ac=\"\ufffd\ufffd\"></b>"},
		{"<b \xc3\x89=1 \xc3\xa9=2>", list(with(el("b"), "\u00c9", "1", "\u00e9", "2")), "<b \u00c9=\"1\" \u00e9=\"2\"></b>"},
		// references
		{"a&lt;&#x20AC;&no;&amp", list(text("a<\u20ac&no;&amp")), "a&lt;\u20ac&amp;no;&amp;amp"},
		{"&amp;lt;&</>lt;", list(text("&lt;&lt;")), "&amp;lt;&amp;lt;"},
		{"&#13;&#0;&#10;&#xD800;&#1114112;", list(text("\ufffd\ufffd\n\ufffd\ufffd")), "\ufffd\ufffd\n\ufffd\ufffd"},
		{"&lt;b&gt;", list(text("<b>")), "&lt;b&gt;"},
		{"<b x='&quot;&#13;\"' y=&gt;&lt z=\"&apos;'\">", list(with(el("b"), "x", "\"\ufffd\"", "y", ">&lt", "z", "''")), "<b x=\"&quot;\ufffd&quot;\" y=\"&gt;&amp;lt\" z=\"''\"></b>"},
		{"<b &lt;=1>", list(with(el("b"), "&lt;", "1")), `<b &lt;="1"></b>`},
		{"<!--&lt;--><style>&lt;</style>", list(comment("&lt;"), el("style", text("&lt;"))), "<!--&lt;--><style>&lt;</style>"},
		{"\"'&nbsp;", list(text("\"'\u00a0")), "\"'\u00a0"},
		// names and attributes
		{"<B ID=1 id=2 iD>x</b>y", list(with(el("b", text("x")), "id", "1"), text("y")), `<b id="1">x</b>y`},
		{"<a href='\"&amp;'>1 < 2", list(with(el("a", text("1 < 2")), "href", "\"&")), "<a href=\"&quot;&amp;\">1 &lt; 2</a>"},
		{"<b\"c'=d\"e f='g'h>", list(with(el("b"), "\"c'", "d\"e", "f", "g", "h", "")), "<b \"c'=\"d&quot;e\" f=\"g\" h=\"\"></b>"},
		{"<b<c<=<d>x", list(with(el("b", text("x")), "<c<", "<d")), `<b <c<="&lt;d">x</b>`},
		{"<b/x/=/1/>", list(with(el("b"), "x", "", "1", "")), `<b x="" 1=""></b>`},
		{"<b x=1/>", list(with(el("b"), "x", "1/")), `<b x="1/"></b>`},
		{"<x-1 -->y", list(with(el("x-1", text("y")), "--", "")), `<x-1 --="">y</x-1>`},
		{"<1>< b><><->", list(text("<1>< b><><->")), "&lt;1&gt;&lt; b&gt;&lt;&gt;&lt;-&gt;"},
		{"<LI>x<Li>y", list(el("li", text("x")), el("li", text("y"))), "<li>x</li><li>y</li>"},
		// tags and comments that do not end
		{"x<b", list(text("x")), "x"}, {"x<b y='>z", list(text("x")), "x"}, {"<i>x</i y", list(el("i", text("x"))), "<i>x</i>"}, {"x<", list(text("x<")), "x&lt;"}, {"x</", list(text("x"), comment("")), "x<!---->"},
		{"x<!--y>z", list(text("x"), comment("y>z")), "x<!--y>z-->"}, {"<!--", list(comment("")), "<!---->"}, {"<!-->", list(comment(">")), "<!-->-->"}, {"<!-- ->y", list(comment(" ->y")), "<!-- ->y-->"}, {"<!x", list(comment("x")), "<!--x-->"},
		// comments
		{"<!--a--><?b><!c></ d></1>", list(comment("a"), comment("b"), comment("c"), comment(" d"), comment("1")), "<!--a--><!--b--><!--c--><!-- d--><!--1-->"},
		{"<!x-->y", list(comment("x--"), text("y")), "<!--x---->y"}, {"<!---->x<!--->-->y<!------>", list(comment(""), text("x"), comment("->"), text("y"), comment("--")), "<!---->x<!--->-->y<!------>"}, {"<!-x->y", list(comment("-x-"), text("y")), "<!---x--->y"}, {"<?->x", list(comment("-"), text("x")), "<!----->x"},
		{"<!--<b>--><?<b>x", list(comment("<b>"), comment("<b"), text("x")), "<!--<b>--><!--<b-->x"},
		{"x</>y", list(text("xy")), "xy"}, {"<</>b>", list(text("<b>")), "&lt;b&gt;"},
		// void elements
		{"</p>x<br></br>y<hr/>z", list(text("x"), el("br"), text("y"), el("hr"), text("z")), "x<br>y<hr>z"}, {"<p><input a><wbr><img>x</p>", list(el("p", with(el("input"), "a", ""), el("wbr"), el("img"), text("x"))), `<p><input a=""><wbr><img>x</p>`}, {"<p>x<hr>y", list(el("p", text("x")), el("hr"), text("y")), "<p>x</p><hr>y"},
		// raw elements
		{"<script>a</b></script>c", list(el("script", text("a</b>")), text("c")), "<script>a</b></script>c"}, {"<script>x</script", list(el("script", text("x</script"))), "<script>x</script</script>"}, {"<script>x</script y", list(el("script", text("x"))), "<script>x</script>"},
		{"<STYLE a=1>&amp;<!--</sTyle/b>c", list(with(el("style", text("&amp;<!--")), "a", "1"), text("c")), `<style a="1">&amp;<!--</style>c`}, {"<style></script></style>", list(el("style", text("</script>"))), "<style></script></style>"}, {"<script></script>x", list(el("script"), text("x")), "<script></script>x"}, {"<script>", list(el("script")), "<script></script>"},
		{"<p><script></p></script>x</p>", list(el("p", el("script", text("</p>")), text("x"))), "<p><script></p></script>x</p>"}, {"<script></scripts></script>", list(el("script", text("</scripts>"))), "<script></scripts></script>"}, {"<script></</script></script>", list(el("script", text("</"))), "<script></</script>"},
		// what closes what, and what ends what
		{"<ul><li>1<li>2</ul>3", list(el("ul", el("li", text("1")), el("li", text("2"))), text("3")), "<ul><li>1</li><li>2</li></ul>3"}, {"<b><i>x</b>y</i>z", list(el("b", el("i", text("x"))), text("yz")), "<b><i>x</i></b>yz"}, {"<p><b><p>x</p>y", list(el("p", el("b", el("p", text("x")), text("y")))), "<p><b><p>x</p>y</b></p>"},
		{"<tr><td>1<td>2<tr>3", list(el("tr", el("td", text("1")), el("td", text("2"))), el("tr", text("3"))), "<tr><td>1</td><td>2</td></tr><tr>3</tr>"}, {"<dl><dt>1<dd>2<dt>3</dl>", list(el("dl", el("dt", text("1")), el("dd", text("2")), el("dt", text("3")))), "<dl><dt>1</dt><dd>2</dd><dt>3</dt></dl>"}, {"x</b>y<p>z</b>u", list(text("xy"), el("p", text("zu"))), "xy<p>zu</p>"},
	}
}

// P8.1, P8.2: what bytes are parsed as, and the text that they settle as.
func TestDocuments(t *testing.T) {
	for _, x := range documents() {
		if got := hold(t, []byte(x.b)); whole(got) != whole(x.l) {
			t.Errorf("%q: %s, not %s", x.b, whole(got), whole(x.l))
		}
		if got, n := parse.Settle([]byte(x.b)); got != x.text || n != 0 {
			t.Errorf("%q settles as %q, %d, not %q", x.b, got, n, x.text)
		}
		if got := hold(t, []byte(x.text)); whole(got) != whole(x.l) {
			t.Errorf("%q: %s, not %s", x.text, whole(got), whole(x.l))
		}
	}
	if len(hold(t, nil)) > 0 {
		t.Error("of nil")
	}
}

// P8.1, P8.2, P8.3, T3: every byte, and every two of them.
func TestBytes(t *testing.T) {
	for i := range 256 * 256 {
		b := []byte{byte(i >> 8), byte(i)}
		hold(t, b)
		hold(t, b[1:])
	}
}

// P8.1, P8.2, P8.3, T3: documents with any byte changed, left out or put in.
func TestChanged(t *testing.T) {
	for _, s := range []string{
		"<p a=\"1\">x<br/>&lt;</p>", "<ul><li>x<LI>y</ul>", "<script>x</script >y</script", "<!--x-->y<!z-->", "<a b='&#13;' b c>", "</b></>\r\n<i\xc3\xa9>", "<style></style", "<td><b x><td>",
	} {
		for c := range sample.Changed(s) {
			hold(t, []byte(c))
		}
	}
}

// rows yields all that comes of some pieces, one behind the other, of as many as told at most.
func rows(most int, pieces string) iter.Seq[string] {
	return func(yield func(string) bool) {
		for l := range sample.Rows(most, strings.Split(pieces, " ")...) {
			if !yield(strings.Join(l, "")) {
				return
			}
		}
	}
}

// P8.1, P8.2, P8.3, T3: all rows of some pieces.
func TestRows(t *testing.T) {
	for _, x := range []struct {
		most   int
		pieces string
	}{
		{3, "<p> <div> <li> <tr> <td> <br> <b> </p> </li> </td> </b> x <!--"}, {5, "<p> <div> <b> </b> </p> x"}, {5, "<tr> <td> </td> </tr> x"},
		{5, "< > / ! - b"}, {5, "<! -- - > x <!-- -->"}, {5, "<script> </script > < /script style"},
		{5, "<b ' \" = x > &"}, {4, "& # x 13 ; lt 0 </>"}, {5, "\r \n \x00 \xc3 \xa9 <b"}, {4, "<style> </style> <!-- --> </ &lt; \n"},
	} {
		for s := range rows(x.most, x.pieces) {
			hold(t, []byte(s))
		}
	}
}

// pieces are what long documents are made of.
func pieces() []string {
	out := strings.Fields("a abbr b blockquote br caption dd div dl dt h1 h2 h3 hr i img input li ol option p pre script select span style table td th tr u ul wbr P LI BR Td SCRIPT x-1")
	for _, name := range out {
		out = append(out, "<"+name+">", "<"+name+">", "</"+name+">", "</"+name, "<"+name+" ", "<"+name+" X=")
	}
	return append(out, "x", "y", " ", "\t", "\n", "\r", "\r\n", "\f", "\x00", "\xff", "\xc3", "\xa9", "\u20ac", "\U0001f600", "<", ">", "/", "=", "'", "\"", "&", ";", "#", "&lt;", "&amp;", "&#13;", "&#x3c;", "&no;", "<!--", "-->", "--", "-", "<!", "<?", "</", "</>", "!", "?", "X=1", "y='2'", "z=\"&quot;\"")
}

// long yields long documents, whose pieces are told by numbers that are always the same: some of all pieces, some of a few.
func long(count, size int) iter.Seq[string] {
	all, chance := pieces(), rand.New(rand.NewPCG(8, 8))
	return func(yield func(string) bool) {
		for range count {
			some := make([]string, 3+chance.IntN(60))
			for i := range some {
				some[i] = all[chance.IntN(len(all))]
			}
			var out strings.Builder
			for range chance.IntN(size) {
				out.WriteString(some[chance.IntN(len(some))])
			}
			if !yield(out.String()) {
				return
			}
		}
	}
}

// P8.1, P8.2, P8.3, T3: long documents of all sorts.
func TestLong(t *testing.T) {
	count, deep := 0, 0
	for s := range long(2000, 300) {
		l := hold(t, []byte(s))
		count += dom.Weight(l)
		deep = max(deep, parse.Deep(l))
	}
	if count < 50000 || deep < 50 {
		t.Errorf("the test itself: %d, %d", count, deep)
	}
}

// asked is nodes, what they are again (nothing, if they may not be), and whether they are kept.
type asked struct {
	l, again []api.Node
	kept     bool
}

// kept is nodes that are kept.
func kept(l ...api.Node) asked { return asked{l, l, true} }

// lost is nodes that become others.
func lost(l []api.Node, again ...api.Node) asked { return asked{l, again, false} }

// none is nodes that may not be.
func none(l ...api.Node) asked { return asked{l, nil, false} }

// lists is nodes of all sorts.
func lists() []asked {
	return []asked{
		kept(), kept(text("x")), kept(comment("")), kept(el("b")), kept(el("br")), kept(el("script")), kept(el("b"), el("b")), kept(comment("x"), comment("x")), kept(text("x"), el("b", text("y")), text("z")), kept(text("x"), comment("y"), text("z")), kept(text(" "), el("p", text("\n")), text("\t")),
		kept(with(el("a", text("1 < 2 & \"3\" '4' > &lt; &#13; </b>")), "href", "\"'<>&amp;& \n\t=", "x", "")), kept(with(el("b"), "\"", "1", "'", "2", "<", "3", "&lt;", "4", "<!--", "5", "-", "")), kept(with(el("b"), "\u00c9", "1", "\u20ac\ufffd", "\ufffd")), kept(text("\ufffd\u0085\u2028\ufeff")),
		kept(el("p", el("b", el("p", el("b", el("div")))))), kept(el("ul", el("li", el("ul", el("li")), text("x")), el("li"))), kept(el("td", el("b", el("td"), el("tr"))), el("td"), el("tr", el("td"))), kept(el("p", el("br"), el("h3"), el("td"))), kept(el("dt", el("dl", el("dd"))), el("dd")), kept(el("p"), el("p")), kept(el("div", el("div"))), kept(el("x-1-"), el("a0")),
		kept(el("script", text("<b>&lt;</b><!--"))), kept(el("style", text("</script></scripts></ style></STYLES>"))), kept(el("script", text("</script"))), kept(el("script", text("</"))), kept(comment("--"), comment("->"), comment(">"), comment("-"), comment("--!>"), comment("<!--"), comment("<b>&lt;")),

		// a kid that closes its parent
		lost(list(el("p", el("div"))), el("p"), el("div")), lost(list(el("p", text("x"), el("p", text("y")), text("z"))), el("p", text("x")), el("p", text("y")), text("z")), lost(list(el("b", el("li", el("li")))), el("b", el("li"), el("li"))), lost(list(el("td", el("tr", el("td")))), el("td"), el("tr", el("td"))), lost(list(el("tr", el("td", el("tr"), text("x")))), el("tr", el("td")), el("tr"), text("x")), lost(list(el("p", el("b"), el("hr"), el("i"))), el("p", el("b")), el("hr"), el("i")),
		lost(list(el("dd", el("dt"))), el("dd"), el("dt")), lost(list(el("option", el("option"))), el("option"), el("option")), lost(list(el("p", el("div", el("p", el("div"))))), el("p"), el("div", el("p"), el("div"))), lost(list(text("x"), el("p", el("ul")), text("y")), text("x"), el("p"), el("ul"), text("y")),
		// kids of void elements, and of raw ones
		lost(list(el("br", text("x"))), el("br")), lost(list(text("x"), el("hr", el("b")), text("y")), text("x"), el("hr"), text("y")), lost(list(el("b", with(el("img", comment("")), "x", "1"))), el("b", with(el("img"), "x", "1"))),
		lost(list(el("script", el("b"))), el("script", text("<b></b>"))), lost(list(el("style", comment("x"))), el("style", text("<!--x-->"))), lost(list(el("script", text("x"), el("b", text("<")), text("&"))), el("script", text("x<b>&lt;</b>&"))), lost(list(el("script", el("script"))), el("script", text("<script>"))),
		// raw ones that end in their text, comments that do
		lost(list(el("script", text("x</script>y"))), el("script", text("x")), text("y")), lost(list(el("script", text("</SCRIPT <b>"))), el("script")), lost(list(el("style", text("</style/"))), el("style")), lost(list(el("style", text("a</style>b")), text("c")), el("style", text("a")), text("bc")), lost(list(comment("x-->y")), comment("x"), text("y-->")), lost(list(text("x"), comment("--><b>"), text("y")), text("x"), comment(""), el("b", text("-->y"))), lost(list(comment("--->")), comment("-"), text("-->")),

		// nodes that may not be, wherever they stand
		none(api.Node{}), none(api.Node{Kind: 4}), none(api.Node{Kind: -1, Text: "x"}), none(text("")), none(text("x"), text("y")), none(text("\r")), none(text("\x00")), none(text("\xff")), none(comment("\r\n")), none(comment("\xc3")), none(el("")), none(el("B")), none(el("1")), none(el("b c")), none(el("\u00e9")), none(el("b>")), none(with(el("b"), "", "")), none(with(el("b"), "X", "")), none(with(el("b"), "x=", "")), none(with(el("b"), "x y", "")), none(with(el("b"), "x/", "")), none(with(el("b"), ">", "")), none(with(el("b"), "\xff", "")), none(with(el("b"), "x", "1", "x", "1")), none(with(el("b"), "x", "\r")), none(with(el("b"), "x", "\xff")), none(with(el("b"), "x", "\x00")),
		none(holding(text("x"), el("b"))), none(holding(comment("x"), text("y"))), none(with(text("x"), "x", "1")), none(with(comment("x"), "x", "1")), none(api.Node{Kind: api.Text, Name: "b", Text: "x"}), none(api.Node{Kind: api.Comment, Name: "b", Text: "x"}), none(api.Node{Kind: api.Element, Name: "b", Text: "x"}),
		none(el("b"), text("x"), text("y")), none(el("b", text("x"), text("y"))), none(el("b", el("i", text("")))), none(el("p", el("i"), el("")), text("x")), none(text("x"), el("b"), comment("\x00")), none(el("p", el("b", with(el("i"), "x", "\r"))), text("x")), none(el("script", text("x"), text("y"))), none(el("br", text(""))), none(text("x"), text("")), none(el("b"), el("b", api.Node{})),
	}
}

// P8.1: nodes again, and whether they are kept; P8.3: these are just the stable ones.
func TestAgain(t *testing.T) {
	for _, x := range lists() {
		if got := parse.Again(x.l); whole(got) != whole(x.again) {
			t.Errorf("%s: again %s, not %s", whole(x.l), whole(got), whole(x.again))
		}
		if got := parse.Keeps(x.l); got != x.kept || model.Stable(x.l) != x.kept {
			t.Errorf("%s: kept %v", whole(x.l), got)
		}
		if got := dom.May(x.l) == api.OK; got != (x.kept || len(x.again) > 0) {
			t.Errorf("the test itself: %s may be: %v", whole(x.l), got)
		}
		again(t, x.l)
	}
	if !parse.Keeps([]api.Node{}) || len(parse.Again([]api.Node{})) > 0 || len(parse.Again(nil)) > 0 {
		t.Error("none")
	}
}

// again holds nodes to the promises: they are again what their text is parsed as, and nothing if they may not be, they are kept just if they are stable, and so deep. It tells whether they are kept.
func again(t *testing.T, l []api.Node) bool {
	t.Helper()
	var want []api.Node
	may := dom.May(l) == api.OK
	if may {
		want = build.Tree(token.Tokens(write.Text(l)))
	}
	got := parse.Again(l)
	if !dom.Same(got, want) {
		t.Fatalf("%s: again %s, not %s", whole(l), whole(got), whole(want))
	}
	if !parse.Keeps(got) {
		t.Fatalf("%s: again %s, which is not kept", whole(l), whole(got))
	}
	keeps := parse.Keeps(l)
	if keeps != model.Stable(l) || keeps != (may && dom.Same(l, want)) {
		t.Fatalf("%s: kept %v", whole(l), keeps)
	}
	if deep := parse.Deep(l); may && deep != levels(l) {
		t.Fatalf("%s: %d deep", whole(l), deep)
	}
	return keeps
}

// levels is how deep elements stand in one another, level by level.
func levels(l []api.Node) int {
	for deep := 0; ; deep++ {
		var kids []api.Node
		elements := 0
		for _, n := range l {
			if n.Kind == api.Element {
				elements++
				kids = append(kids, n.Kids...)
			}
		}
		if elements == 0 {
			return deep
		}
		l = kids
	}
}

// names is names of elements, and texts that are no names.
func names() []string {
	return append(strings.Fields("a b blockquote br col dd div dl dt em h1 h2 h3 head hr img input li link meta ol optgroup option p pre s script select span style table tbody td th title tr ul wbr x-1 P LI #text * 1"), "")
}

// P8.1, P8.3: each element with kids in each other one, in each other one.
func TestNames(t *testing.T) {
	for _, a := range names() {
		for _, b := range names() {
			again(t, list(el(a), el(b)))
			again(t, list(el(a, el(b))))
			again(t, list(el(a, text("x"), el(b, text("y")), text("z"))))
			again(t, list(el("b", el(a, el("b", el(b)))), text("x")))
			for _, c := range []string{"p", "div", "td", "tr", "li", "dd", "br", "script", "b"} {
				again(t, list(el(a, el(b, el(c)))))
				again(t, list(el(a, el(c), el(b))))
			}
		}
	}
}

// P8.1, P8.3: texts, comments, names and values of any bytes.
func TestTexts(t *testing.T) {
	count := 0
	try := func(s string) {
		count++
		for _, l := range [][]api.Node{
			list(text(s)), list(el("b", text(s))), list(comment(s)), list(text("x"), comment(s), text("y")), list(el("script", text(s))), list(el("style", text(s)), text("x")), list(with(el("b"), "x", s)), list(with(el("b", text("x")), "x", "1", s, "2", "y", "3")), list(with(el("br"), s, s)), list(el(s, text("x"))),
		} {
			again(t, l)
		}
	}
	for i := range 256 {
		try(string([]byte{byte(i)}))
		try(string([]byte{'x', byte(i), 'x'}))
	}
	for _, pieces := range []string{"- > < ! x", "</ script style > / < x", "& lt ; # 13 \" '", "< ? / b = &", "\r \n \x00 \xc3 \xa9"} {
		for s := range rows(4, pieces) {
			try(s)
		}
	}
	for _, s := range []string{"</script>", "-->", "&amp;", "\u20ac"} {
		for c := range sample.Changed(s) {
			try(c)
		}
	}
	if count < 8000 {
		t.Errorf("the test itself: %d", count)
	}
}

// grown is some nodes, each element with all lists of such nodes in it, as deep as told, and of no more nodes than that.
func grown(deep int, pool []api.Node) []api.Node {
	if deep == 0 {
		return pool
	}
	var out []api.Node
	for _, n := range pool {
		if n.Kind != api.Element {
			out = append(out, n)
			continue
		}
		for kids := range sample.Rows(deep, grown(deep-1, pool)...) {
			out = append(out, holding(n, kids...))
		}
	}
	return out
}

// P8.1, P8.3: all small lists of nodes, those that may not be among them.
func TestTrees(t *testing.T) {
	count, keeps, may := 0, 0, 0
	for _, pool := range [][]api.Node{
		list(el("p"), el("div"), text("x")), list(el("tr"), el("td"), comment("-->")), list(el("br"), text("x"), text("")), list(el("script"), text("</script>"), comment("")), list(el("li"), el("B"), comment("x")), list(with(el("b"), "x", "\r"), text("x"), text("\x00")),
	} {
		for l := range sample.Rows(2, grown(2, pool)...) {
			count++
			if dom.May(l) == api.OK {
				may++
			}
			if again(t, l) {
				keeps++
			}
		}
	}
	if keeps < 1000 || may-keeps < 1000 || count-may < 1000 {
		t.Errorf("the test itself: %d, of these may be %d, and are kept %d", count, may, keeps)
	}
}

// P8.2: how deep elements stand in one another.
func TestDeep(t *testing.T) {
	for _, x := range []struct {
		l    []api.Node
		want int
	}{
		{nil, 0}, {[]api.Node{}, 0}, {list(text("x")), 0}, {list(comment("x"), text("y")), 0}, {list(el("b")), 1}, {list(el("br")), 1}, {list(el("script", text("x"))), 1}, {list(el("b", text("x"), comment("y"))), 1}, {list(el("b"), el("b"), el("b")), 1},
		{list(el("p", el("div"))), 2}, {list(el("b", el("i", text("x")))), 2}, {list(el("b", el("i")), el("b")), 2}, {list(el("b"), el("b", el("i"))), 2}, {list(text("x"), el("b"), comment(""), el("b", text("x"), el("i"), text("y")), el("b")), 2},
		{list(el("b", el("i", el("u")))), 3}, {list(el("b", el("i"), el("i", el("u")), el("i")), el("b", el("i"))), 3}, {list(el("b", el("i", el("u"))), el("b", el("i", el("u", el("s"))))), 4}, {list(el("b", el("i", el("u", el("s")))), el("b", el("i", el("u")))), 4}, {list(el("b", el("br", el("b")))), 3},
		{sample.Chain(100), 100}, {sample.Chain(100, text("x")), 100}, {list(el("b", sample.Chain(50)...), el("b", sample.Chain(60)...), el("b", sample.Chain(40)...)), 61},
	} {
		if got := parse.Deep(x.l); got != x.want || levels(x.l) != x.want {
			t.Errorf("%s: %d, not %d", whole(x.l), got, x.want)
		}
	}
}

// P8.1, P8.2, P8.3, T3: documents as deep as the document's bound, and no elements are lost on the way.
func TestBound(t *testing.T) {
	const deep = 10000
	begins := strings.Repeat("<b x=1>", deep)
	for _, x := range []struct {
		s      string
		l      []api.Node
		levels int
	}{
		{begins, sample.Chain(deep), deep}, {begins + "y", sample.Chain(deep, text("y")), deep}, {begins + "y" + strings.Repeat("</b>", deep) + "z", append(sample.Chain(deep, text("y")), text("z")), deep}, {begins + strings.Repeat("</i>", deep) + "y", sample.Chain(deep, text("y")), deep}, {begins + strings.Repeat("</b>", 2*deep) + "<i>", append(sample.Chain(deep), el("i")), deep}, {begins + "<br", sample.Chain(deep), deep},
		{strings.Repeat("<p>", deep), slices.Repeat(list(el("p")), deep), 1}, {strings.Repeat("<td><tr>", deep), slices.Concat(list(el("td")), slices.Repeat(list(el("tr", el("td"))), deep-1), list(el("tr"))), 2},
	} {
		l := hold(t, []byte(x.s))
		if !dom.Same(l, x.l) || parse.Deep(l) != x.levels {
			t.Errorf("%.20q: %d nodes, %d deep", x.s, dom.Weight(l), parse.Deep(l))
		}
	}
	for _, x := range []struct {
		s             string
		weight, level int
	}{
		{strings.Repeat("<p><b>", deep/2), deep, deep}, {strings.Repeat("<tr><td><table>", deep/3), deep / 3 * 3, deep / 3 * 3}, {strings.Repeat("<ul><li>x<li>y", deep/2), deep / 2 * 5, deep}, {"<u>" + strings.Repeat("<b>", deep-1) + "</u><i>", deep + 1, deep},
	} {
		l := hold(t, []byte(x.s))
		if got := dom.Weight(l); got != x.weight || parse.Deep(l) != x.level {
			t.Errorf("%.20q: %d nodes, %d deep", x.s, got, parse.Deep(l))
		}
	}
	lost := sample.Chain(deep-2, el("p", el("div")))
	if parse.Keeps(lost) || !dom.Same(parse.Again(lost), sample.Chain(deep-2, el("p"), el("div"))) || len(parse.Again(sample.Chain(deep-1, text("")))) > 0 {
		t.Error("lost")
	}
}

// P8.1, P8.2: documents of many pieces are parsed in time.
func TestMany(t *testing.T) {
	const many = 20000
	for _, x := range []struct {
		piece string
		l     []api.Node
	}{
		{"<b>x</b>", list(el("b", text("x")))}, {"<br>", list(el("br"))}, {"<li>", list(el("li"))}, {"<!--x-->", list(comment("x"))}, {"<p>x", list(el("p", text("x")))}, {"<script>x</script>", list(el("script", text("x")))}, {"<a b=1 c>&lt;</a>", list(with(el("a", text("<")), "b", "1", "c", ""))},
	} {
		l := hold(t, []byte(strings.Repeat(x.piece, many)))
		if want := slices.Repeat(x.l, many); !dom.Same(l, want) {
			t.Errorf("%q: %d nodes", x.piece, len(l))
		}
	}
	for _, x := range []struct{ piece, text string }{{"x", "x"}, {"&lt;", "<"}, {"</b>\r\n", "\n"}, {"\xff</>", "\ufffd"}, {"< ", "< "}, {"&", "&"}} {
		l := hold(t, []byte(strings.Repeat(x.piece, many)))
		if want := list(text(strings.Repeat(x.text, many))); !dom.Same(l, want) {
			t.Errorf("%q: %d nodes", x.piece, len(l))
		}
	}
	var attrs strings.Builder
	for i := range many {
		attrs.WriteString(" a" + strings.Repeat("b", i%10) + strings.Repeat("c", i/10%10) + strings.Repeat("d", i/100%10) + "=1")
	}
	if l := hold(t, []byte("<b"+attrs.String()+">")); dom.Weight(l) != 1001 {
		t.Errorf("attributes: %d", dom.Weight(l))
	}
}

// R4: bytes that are handed in are not changed, spare room and all, and a change of them is not seen in what was told; nor is a change of what was told seen in what is told later.
func TestBytesOwn(t *testing.T) {
	for _, x := range documents() {
		room := append([]byte(x.b), "\r\n<b>"...)
		b := room[:len(x.b)]
		was := slices.Clone(room)
		one, two := parse.Bytes(b), parse.Bytes(b)
		s, _ := parse.Settle(b)
		first, second := parse.Text(x.text), parse.Text(x.text)
		if !slices.Equal(room, was) {
			t.Errorf("%q is changed: %q", x.b, room)
		}
		if sample.Shared(one, two, first, second) {
			t.Errorf("%q: shared", x.b)
		}
		clear(room)
		sample.Spoil(two)
		sample.Spoil(second)
		if whole(one) != whole(x.l) || s != x.text || whole(first) != whole(x.l) || whole(parse.Bytes([]byte(x.b))) != whole(x.l) || whole(parse.Text(x.text)) != whole(x.l) {
			t.Errorf("%q: a change is seen: %s, %q", x.b, whole(one), s)
		}
	}
}

// R4: nodes that are handed in are not changed, spare room and all, and nothing told shares memory with them.
func TestNodesOwn(t *testing.T) {
	for _, x := range lists() {
		l := sample.Roomy(x.l)
		before := sample.Room(l)
		one, two := parse.Again(l), parse.Again(l)
		keeps, deep := parse.Keeps(l), parse.Deep(l)
		if !reflect.DeepEqual(before, sample.Room(l)) {
			t.Errorf("%s is changed", whole(x.l))
		}
		if sample.Shared(l, one, two) {
			t.Errorf("%s: shared", whole(x.l))
		}
		if keeps != x.kept || deep != parse.Deep(x.l) {
			t.Errorf("%s, with room to spare: kept %v, %d deep", whole(x.l), keeps, deep)
		}
		sample.Spoil(l)
		sample.Spoil(two)
		if whole(one) != whole(x.again) {
			t.Errorf("%s: a change is seen: %s", whole(x.l), whole(one))
		}
	}
}

// R5: the same is told again the same, whatever was asked in between.
func TestSame(t *testing.T) {
	var want []string
	tell := func(s string) string {
		l := parse.Bytes([]byte(s))
		settled, _ := parse.Settle([]byte(s))
		return whole(l) + settled
	}
	for s := range long(300, 100) {
		want = append(want, tell(s))
	}
	for range 5 {
		i := 0
		for s := range long(300, 100) {
			if tell(s) != want[i] {
				t.Fatalf("%q: another one", s)
			}
			i++
		}
	}
}
