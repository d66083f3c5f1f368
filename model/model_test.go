package model_test

import (
	"reflect"
	"slices"
	"strings"
	"testing"

	"strainer/api"
	"strainer/dom"
	"strainer/model"
	"strainer/sample"
	"strainer/token"
	"strainer/write"
)

var (
	text, comment, el, list = sample.Text, sample.Comment, sample.Element, sample.List
	with, holding, whole    = sample.With, sample.Holding, sample.Whole
)

// closing is, by an open element's name, those whose beginning closes it, as the chapter lists them.
var closing = map[string]string{
	"p":  "blockquote div h1 h2 hr li ol p pre table ul",
	"li": "li",
	"dt": "dd dt", "dd": "dd dt",
	"option": "option",
	"td":     "td tr",
	"tr":     "tr",
}

// closes is what Closes is to tell.
func closes(open, begin string) bool {
	return slices.Contains(strings.Fields(closing[open]), begin)
}

// void and raw tell which elements are so, by chapter 3.
func void(name string) bool {
	return slices.Contains([]string{"br", "hr", "img", "input", "wbr"}, name)
}

func raw(name string) bool { return name == "script" || name == "style" }

// ended tells whether a raw element ends in its text: whether all of an end, with what must stand behind the name, stands in it. (Behind the text a `<` follows, which neither goes on with a name nor may stand behind it.)
func ended(name, s string) bool {
	small := strings.Map(func(r rune) rune {
		if 'A' <= r && r <= 'Z' {
			return r - 'A' + 'a'
		}
		return r
	}, s)
	for _, behind := range []string{"\t", "\n", "\f", " ", "/", ">"} {
		if strings.Contains(small, "</"+name+behind) {
			return true
		}
	}
	return false
}

// fits is what Fits is to tell.
func fits(parent string, n api.Node) bool {
	switch {
	case void(parent):
		return false
	case raw(parent) && n.Kind == api.Text:
		return !ended(parent, n.Text)
	case raw(parent):
		return false
	case n.Kind == api.Element:
		return !closes(parent, n.Name)
	}
	return true
}

// stable is what Stable is to tell: each node that there is, asked by itself.
func stable(l []api.Node) bool {
	if dom.May(l) != api.OK {
		return false
	}
	for _, n := range dom.All(l) {
		if void(n.Name) && len(n.Kids) > 0 || n.Kind == api.Comment && strings.Contains(n.Text, "-->") {
			return false
		}
		if raw(n.Name) && len(n.Kids) > 0 && (len(n.Kids) > 1 || n.Kids[0].Kind != api.Text || ended(n.Name, n.Kids[0].Text)) {
			return false
		}
		for _, kid := range n.Kids {
			if kid.Kind == api.Element && closes(n.Name, kid.Name) {
				return false
			}
		}
	}
	return true
}

// steady is what Steady is to tell of nodes in that parent, step by step: first the kids, then what goes, then what is merged, then what goes of that.
func steady(parent string, l []api.Node) []api.Node {
	var left []api.Node
	for _, n := range l {
		n.Kids = steady(n.Name, n.Kids)
		if fits(parent, n) && (n.Kind != api.Comment || !strings.Contains(n.Text, "-->")) {
			left = append(left, n)
		}
	}
	left = dom.Merge(left)
	if raw(parent) && len(left) == 1 && ended(parent, left[0].Text) {
		return nil
	}
	return left
}

// names is names of elements, those that the chapter names among them, and texts that are no names.
var names = strings.Fields("a abbr article b blockquote body br button caption center code col dd details dir div dl dt em fieldset footer form h1 h2 h3 h4 h5 h6 head header hr html i img input li link main menu meta nav ol optgroup option p param pre q rp rt script section select span strong style summary table tbody td template textarea tfoot th thead title tr tt u ul wbr xmp no-such-name P LI TD Br SCRIPT #text * 1 - \u017fcript")

// P6.1: Closes.
func TestCloses(t *testing.T) {
	check := func(open, begin string) {
		if got := model.Closes(open, begin); got != closes(open, begin) {
			t.Errorf("%q closes %q: %v", begin, open, got)
		}
	}
	for _, x := range []struct {
		open, begin string
		want        bool
	}{
		{"p", "blockquote", true}, {"p", "div", true}, {"p", "h1", true}, {"p", "h2", true}, {"p", "hr", true}, {"p", "li", true}, {"p", "ol", true}, {"p", "p", true}, {"p", "pre", true}, {"p", "table", true}, {"p", "ul", true},
		{"p", "h3", false}, {"p", "b", false}, {"p", "br", false}, {"p", "dl", false}, {"p", "td", false}, {"p", "tr", false}, {"p", "dd", false}, {"p", "dt", false}, {"p", "option", false}, {"p", "script", false},
		{"blockquote", "p", false}, {"div", "p", false}, {"h1", "p", false}, {"hr", "p", false}, {"ol", "p", false}, {"pre", "p", false}, {"table", "p", false}, {"ul", "p", false},
		{"li", "li", true}, {"li", "p", false}, {"li", "ul", false}, {"ul", "li", false}, {"ul", "ul", false}, {"div", "div", false},
		{"dt", "dd", true}, {"dt", "dt", true}, {"dd", "dd", true}, {"dd", "dt", true}, {"dl", "dt", false}, {"dd", "dl", false},
		{"option", "option", true}, {"option", "optgroup", false}, {"select", "option", false},
		{"td", "td", true}, {"td", "tr", true}, {"tr", "tr", true}, {"tr", "td", false}, {"td", "th", false}, {"th", "td", false}, {"th", "th", false}, {"td", "table", false}, {"table", "tr", false}, {"table", "table", false},
		{"P", "p", false}, {"p", "P", false}, {"p", "DIV", false}, {"Li", "li", false}, {"p ", "p", false}, {"p", "p ", false}, {"p", "", false}, {"", "p", false}, {"", "", false}, {"dd dt", "dd", false}, {"dd", "dd dt", false}, {"x", "x", false},
	} {
		if model.Closes(x.open, x.begin) != x.want {
			t.Errorf("%q closes %q: %v", x.begin, x.open, !x.want)
		}
		check(x.open, x.begin)
	}
	all := append([]string{""}, names...)
	for _, open := range all {
		for _, begin := range all {
			check(open, begin)
		}
	}
	for open, l := range closing {
		for _, begin := range strings.Fields(l) {
			for s := range sample.Changed(open) {
				check(s, begin)
			}
			for s := range sample.Changed(begin) {
				check(open, s)
			}
		}
	}
}

// P6.1: Closed, and R4, R5 of it: each answer is of its own, and is the same.
func TestClosed(t *testing.T) {
	want := []string{"dd", "dt", "li", "option", "p", "td", "tr"}
	for range 50 {
		got := model.Closed()
		if !slices.Equal(got, want) {
			t.Fatal(got)
		}
		for i := range got[:cap(got)] {
			got[:cap(got)][i] = "spoilt"
		}
	}
	for _, name := range names {
		closed := slices.ContainsFunc(names, func(begin string) bool { return model.Closes(name, begin) })
		if closed != slices.Contains(want, name) {
			t.Errorf("%s: %v", name, closed)
		}
	}
}

// P6.1: Fits.
func TestFits(t *testing.T) {
	named, kidded := text("x"), holding(text("x"), el("b"))
	named.Name = "div"
	note := comment("c")
	note.Name = "div"
	titled := el("div")
	titled.Text = "t"
	for _, x := range []struct {
		parent string
		n      api.Node
		want   bool
	}{
		// in one that is neither
		{"b", text("x"), true}, {"b", text(""), true}, {"b", comment("c"), true}, {"b", comment("-->"), true}, {"b", el("b"), true}, {"b", el("div"), true}, {"b", el("br"), true}, {"b", el("script"), true}, {"b", text("</b>"), true}, {"b", text("</script>"), true},
		{"div", el("p"), true}, {"div", el("div"), true}, {"h1", el("h1"), true}, {"table", el("td"), true}, {"", el("p"), true}, {"", text("x"), true}, {"", comment("-->"), true},
		// in one that something closes
		{"p", el("div"), false}, {"p", el("p"), false}, {"p", el("hr"), false}, {"p", el("b"), true}, {"p", el("h3"), true}, {"p", text("div"), true}, {"p", comment("-->"), true}, {"p", el("script"), true},
		{"li", el("li"), false}, {"li", el("ul"), true}, {"dt", el("dd"), false}, {"dd", el("dt"), false}, {"td", el("td"), false}, {"td", el("tr"), false}, {"tr", el("tr"), false}, {"tr", el("td"), true}, {"option", el("option"), false},
		// in a void one
		{"br", text("x"), false}, {"br", text(""), false}, {"hr", comment("c"), false}, {"hr", comment(""), false}, {"img", el("b"), false}, {"input", el("br"), false}, {"wbr", api.Node{}, false}, {"br", api.Node{Kind: 9}, false},
		// in a raw one
		{"script", text("x"), true}, {"script", text(""), true}, {"script", text("<b>&amp;</b>"), true}, {"style", text("<!--"), true}, {"script", el("b"), false}, {"script", el("script"), false}, {"script", comment("c"), false}, {"style", comment(""), false}, {"script", api.Node{}, false}, {"style", api.Node{Kind: 9, Text: "x"}, false},
		{"script", text("</script>"), false}, {"script", text("</script "), false}, {"script", text("</script\t"), false}, {"script", text("</script\n"), false}, {"script", text("</script\f"), false}, {"script", text("</script/"), false}, {"style", text("</style>"), false},
		{"script", text("</SCRIPT>"), false}, {"style", text("a</stYle >b"), false}, {"script", text("a</script>"), false}, {"script", text("</script></script>"), false}, {"script", text("</script</script>"), false}, {"script", text("<</script>"), false}, {"script", text("</</script>"), false}, {"script", text("</scr</script>"), false},
		{"script", text("</script"), true}, {"script", text("</scrip"), true}, {"script", text("<"), true}, {"script", text("</"), true}, {"script", text("script>"), true}, {"script", text("/script>"), true}, {"script", text("</scripts>"), true}, {"script", text("</script\r"), true}, {"script", text("</script\v"), true}, {"script", text("</script\""), true}, {"script", text("</script<"), true}, {"script", text("</script="), true}, {"script", text("</script\x00"), true},
		{"script", text("</ script>"), true}, {"script", text("< /script>"), true}, {"script", text("<script>"), true}, {"script", text("</style>"), true}, {"style", text("</script>"), true}, {"style", text("</style"), true}, {"script", text("</\u017fcript>"), true}, {"script", text("</script\u00a0>"), true},
		// names that are not quite so
		{"BR", text("x"), true}, {"Script", el("b"), true}, {"SCRIPT", text("</script>"), true}, {"P", el("p"), true}, {"p", el("DIV"), true}, {"brr", text("x"), true}, {"scripts", el("b"), true}, {"title", text("</title>"), true},
		// whether the node may be is not asked, nor what stands in it
		{"b", api.Node{}, true}, {"b", api.Node{Kind: 9}, true}, {"p", api.Node{Kind: 4, Name: "div"}, true}, {"p", api.Node{Name: "div"}, true}, {"p", api.Node{Kind: -1, Name: "p"}, true}, {"p", named, true}, {"p", note, true}, {"p", titled, false},
		{"script", named, true}, {"script", kidded, true}, {"script", with(text("x"), "id", "1"), true}, {"script", text("\xff\x00\r"), true}, {"script", text("\xff</script>"), false}, {"b", el("br", text("x")), true}, {"b", el("p", el("p")), true}, {"b", el("script", el("b"), text("</script>")), true}, {"b", el(""), true}, {"b", el("A"), true}, {"p", el("div", text(""), text("")), false},
	} {
		if model.Fits(x.parent, x.n) != x.want {
			t.Errorf("%s in %q: %v", whole(list(x.n)), x.parent, !x.want)
		}
		if fits(x.parent, x.n) != x.want {
			t.Errorf("the test itself: %s in %q", whole(list(x.n)), x.parent)
		}
	}
}

// P6.1: Fits, of all nodes in all parents, and of texts of raw elements that are not quite ends.
func TestFitsAll(t *testing.T) {
	check := func(parent string, n api.Node) {
		if got := model.Fits(parent, n); got != fits(parent, n) {
			t.Errorf("%s in %q: %v", whole(list(n)), parent, got)
		}
	}
	for _, parent := range append([]string{""}, names...) {
		for _, n := range append(pool(), wrong()...) {
			check(parent, n)
		}
		for _, name := range names {
			check(parent, el(name))
			check(parent, text("</"+name+">"))
		}
	}
	for _, parent := range []string{"script", "style"} {
		for _, end := range []string{"</" + parent + ">", "x</" + strings.ToUpper(parent) + " y", "</" + parent + "</" + parent + "/"} {
			for s := range sample.Changed(end) {
				check(parent, text(s))
				check(parent, text(s[:len(s)-1]))
			}
		}
	}
}

// pool is nodes that may be, but that a text may be empty: some are stable, some are not.
func pool() []api.Node {
	return []api.Node{
		text("x"), text(""), text("</script>"), text("</scr"), text("ipt>"), text("a</Style "),
		comment(""), comment("c"), comment("--"), comment("-->"), comment("a-->b"), comment("->"),
		el("b"), el("p"), el("div"), el("li"), el("dd"), el("tr"), el("option", text("x")), with(el("hr"), "id", "1"), el("br", text("x")), el("script", text("<b>")), with(el("p", text("x"), el("ul", el("li"))), "id", "1", "x", ""),
		el("p", text("x"), el("div"), text("y")), el("i", comment("-->"), text("y")), el("style", text("</sty"), el("b"), text("le>")), el("td", el("td", el("td"))), el("img", el("b", comment("c"))), el("script", comment("c")),
	}
}

// wrong is nodes that may not be.
func wrong() []api.Node {
	named := text("x")
	named.Name = "b"
	return []api.Node{
		{}, {Kind: 4, Text: "x"}, {Kind: -1, Name: "b"}, named, text("a\r"), comment("\x00"), comment("\xff"), holding(text("x"), el("b")), holding(comment("c"), text("k")), with(text("x"), "id", "1"),
		el(""), el("B"), el("b", text("")), el("b", text("x"), text("y")), with(el("b"), "id", "1", "id", "2"), with(el("b"), "A", ""), with(el("b"), "id", "\r"),
	}
}

// rows yields no nodes, each row of up to three of the pool, alone and in an element of each of some names, with a node at each side of it.
func rows(yield func([]api.Node) bool) {
	parents := []string{"b", "p", "li", "dt", "tr", "td", "option", "br", "hr", "script", "style"}
	both := func(l ...api.Node) bool {
		for _, name := range parents {
			if !yield(list(text("x"), el(name, l...), comment("c"))) {
				return false
			}
		}
		return yield(l)
	}
	l := pool()
	if !both() {
		return
	}
	for _, a := range l {
		if !both(a) {
			return
		}
		for _, b := range l {
			if !both(a, b) {
				return
			}
			for _, c := range l[:12] {
				if !both(a, c, b) {
					return
				}
			}
		}
	}
}

// P6.2: Stable.
func TestStable(t *testing.T) {
	for _, x := range []struct {
		what string
		l    []api.Node
		want bool
	}{
		{"nothing", nil, true},
		{"an empty list", []api.Node{}, true},
		{"a text", list(text("x")), true},
		{"a text that is written otherwise", list(text("<b>&amp;-->")), true},
		{"a comment", list(comment("c")), true},
		{"an empty comment", list(comment("")), true},
		{"an element", list(el("b")), true},
		{"with kids and attributes", list(with(el("a", text("x"), el("b", comment("c")), text("y")), "href", "-->", "id", "</script>")), true},
		{"texts apart", list(text("x"), comment(""), text("y"), el("br"), text("z")), true},
		// that may not be
		{"an empty text", list(text("")), false},
		{"texts side by side", list(text("x"), text("y")), false},
		{"texts side by side in one", list(el("b", text("x"), text("y"))), false},
		{"no Kind", list(api.Node{}), false},
		{"a name that may not be", list(el("B")), false},
		{"an attribute that stands twice", list(with(el("b"), "id", "", "id", "")), false},
		{"a text that is not right", list(text("\r")), false},
		{"a comment with kids", list(holding(comment("c"), el("b"))), false},
		// void elements
		{"void ones", list(el("br"), el("hr"), el("img"), el("input"), el("wbr")), true},
		{"void ones with attributes", list(with(el("img"), "src", "x")), true},
		{"a text in br", list(el("br", text("x"))), false},
		{"a comment in hr", list(el("hr", comment(""))), false},
		{"br in br", list(el("br", el("br"))), false},
		{"a text in img, deep", list(el("b", el("i"), el("u", el("img", text("x"))))), false},
		{"input with kids", list(text("x"), el("input", el("b"))), false},
		{"wbr with kids", list(el("wbr", el("b"), text("x"))), false},
		// raw elements
		{"raw ones", list(el("script"), el("style")), true},
		{"a text in each", list(el("script", text("a<b&&c")), el("style", text("<!-- & -->"))), true},
		{"other ends", list(el("script", text("</style></b>")), el("style", text("</script>"))), true},
		{"what goes on behind the name", list(el("script", text("</scripts>"))), true},
		{"what nearly ends", list(el("script", text("</script")), el("style", text("</styl"))), true},
		{"what ends", list(el("script", text("</script>"))), false},
		{"what ends within", list(el("style", text("a</STYLE b"))), false},
		{"what ends twice", list(el("script", text("</script></script>"))), false},
		{"what ends behind what nearly does", list(el("script", text("</script</script>"))), false},
		{"what ends, deep", list(el("b", el("script", text("</script/")))), false},
		{"an element in script", list(el("script", el("b"))), false},
		{"a comment in style", list(el("style", comment("c"))), false},
		{"a text and a comment", list(el("script", text("x"), comment(""))), false},
		{"a text and an element", list(el("script", el("i"), text("x"))), false},
		{"two texts", list(el("script", text("x"), text("y"))), false},
		{"two texts apart", list(el("script", text("x"), el("b"), text("y"))), false},
		{"an empty text in script", list(el("script", text(""))), false},
		{"ends elsewhere", list(text("</script>"), comment("</script>"), el("b", text("</b></script>"))), true},
		// comments
		{"--", list(comment("--")), true},
		{"-> and >", list(comment("->"), comment(">"), comment("-->"[1:])), true},
		{"-- >", list(comment("-- >")), true},
		{"--!>", list(comment("--!>")), true},
		{"<!--", list(comment("<!--")), true},
		{"-->", list(comment("-->")), false},
		{"a-->", list(comment("a-->")), false},
		{"--->b", list(comment("--->b")), false},
		{"-->, the second one, deep", list(el("b", comment("x"), el("i", text("-->"), comment("-->")))), false},
		// what a kid closes
		{"p in p", list(el("p", el("p"))), false},
		{"hr in p", list(el("p", text("x"), el("hr"))), false},
		{"div in b in p", list(el("p", el("b", el("div")))), true},
		{"p in div in b in p", list(el("p", el("b", el("div", el("p"))))), true},
		{"p in div", list(el("div", el("p"), el("p"), el("div"))), true},
		{"li in li", list(el("ul", el("li", el("li")))), false},
		{"li in ul in li", list(el("ul", el("li", el("ul", el("li"))))), true},
		{"dd in dt", list(el("dl", el("dt"), el("dt", el("dd")))), false},
		{"dt in dd, deep", list(el("dl", el("dd", el("b", el("dd", el("dt")))))), false},
		{"rows and cells", list(el("table", el("tr", el("td", el("table", el("tr", el("td"))))))), true},
		{"td in td", list(el("td", el("td"))), false},
		{"tr in td", list(el("td", el("tr"))), false},
		{"tr in tr", list(el("tr", el("tr"))), false},
		{"tr in td in tr", list(el("tr", el("td", el("tr")))), false},
		{"option in option", list(el("option", el("option"))), false},
		{"side by side", list(el("p"), el("p"), el("div"), el("li"), el("li"), el("tr"), el("tr")), true},
		{"the second one alone", list(el("b"), el("p", el("ol"))), false},
		{"texts and comments named so", list(el("p", text("div"), comment("div"))), true},
	} {
		if model.Stable(x.l) != x.want {
			t.Errorf("%s: %v", x.what, !x.want)
		}
		if stable(x.l) != x.want {
			t.Errorf("the test itself: %s", x.what)
		}
	}
}

// P6.2: Stable, of all rows, and of nodes that may not be, side by side and in one another.
func TestStableRows(t *testing.T) {
	count := map[bool]int{}
	check := func(l []api.Node) {
		got := model.Stable(l)
		count[got]++
		if got != stable(l) {
			t.Fatalf("%s: %v", whole(l), got)
		}
	}
	for l := range rows {
		check(l)
	}
	if count[true] < 1000 || count[false] < 1000 {
		t.Errorf("the test itself: %v", count)
	}
	for _, a := range append(pool(), wrong()...) {
		for _, b := range append(pool(), wrong()...) {
			check(list(a, b))
			check(list(el("b", a, b)))
			check(list(holding(a, b)))
			check(list(el("i"), holding(a, b), el("u")))
			check(list(holding(a, el("b"), el("u", b))))
		}
	}
}

// P6.2: Steady.
func TestSteady(t *testing.T) {
	deep := with(el("b", text("x"), with(el("i", comment("c")), "x", "1"), text("y")), "y", "2", "x", "")
	for _, x := range []struct {
		what    string
		l, want []api.Node
	}{
		{"nothing", nil, nil},
		{"an empty list", []api.Node{}, nil},
		{"what is steady", list(deep, text("z"), el("br")), list(deep, text("z"), el("br"))},
		{"texts", list(text(""), text("x"), text(""), text("y"), el("b"), text("")), list(text("xy"), el("b"))},
		{"texts in one", list(el("b", text("x"), text("y"), el("i", text("")), text("z"))), list(el("b", text("xy"), el("i"), text("z")))},
		// comments
		{"a comment goes", list(comment("-->")), nil},
		{"comments stay", list(comment("--"), comment(""), comment(">")), list(comment("--"), comment(""), comment(">"))},
		{"texts beside a comment that goes", list(text("x"), comment("a-->b"), text("y"), comment("c"), text("z")), list(text("xy"), comment("c"), text("z"))},
		{"a comment goes, deep", list(el("b", el("i", text("x"), comment("-->"), text(""), text("y")))), list(el("b", el("i", text("xy"))))},
		// void elements
		{"void ones", list(el("br", text("x")), with(el("img", el("b", text("x")), comment("c")), "src", "y"), el("hr", text("")), el("input", el("input")), el("wbr", comment("-->"))), list(el("br"), with(el("img"), "src", "y"), el("hr"), el("input"), el("wbr"))},
		{"a void one, deep", list(el("p", el("b", el("br", text("x")), text("y")))), list(el("p", el("b", el("br"), text("y"))))},
		// what a kid closes
		{"div in p", list(el("p", text("x"), el("div", text("d")), text("y"))), list(el("p", text("xy")))},
		{"all in p", list(el("p", el("p"), el("ul", el("li")), el("hr"))), list(el("p"))},
		{"div in b in p", list(el("p", el("b", el("div", text("x"))))), list(el("p", el("b", el("div", text("x")))))},
		{"what goes does not count as a parent", list(el("li", el("li", el("b", text("x"))), el("b"))), list(el("li", el("b")))},
		{"at each depth", list(el("tr", el("td", el("tr", el("td")), text("x"), el("td"), text("y")), el("tr"))), list(el("tr", el("td", text("xy"))))},
		{"dd and dt", list(el("dl", el("dt", el("dd"), el("b")), el("dd", el("dt"), el("dl", el("dd"))))), list(el("dl", el("dt", el("b")), el("dd", el("dl", el("dd")))))},
		{"outside of all", list(el("p"), el("div"), el("li"), el("p")), list(el("p"), el("div"), el("li"), el("p"))},
		// raw elements
		{"a text stays", list(el("script", text("a<b&amp;"))), list(el("script", text("a<b&amp;")))},
		{"an empty one goes", list(el("style", text(""))), list(el("style"))},
		{"what ends goes", list(el("script", text("a</script>"))), list(el("script"))},
		{"all but texts goes", list(el("style", comment("c"), text("a"), el("b", text("x")), text("b"), comment(""))), list(el("style", text("ab")))},
		{"what ends goes, and parts no more", list(el("script", text("a"), text("</script "), text(""), text("b"))), list(el("script", text("ab")))},
		{"what ends together goes", list(el("script", text("x</scr"), text("ipt>"), text("y"))), list(el("script"))},
		{"what ends together, when all else is gone", list(el("style", text("</"), comment("c"), text("STYLE"), el("b"), text(""), text("/"))), list(el("style"))},
		{"what ends together, by a byte each", list(el("script", text("<"), text("/"), text("s"), text("c"), text("r"), text("i"), text("p"), text("t"), text("\n"))), list(el("script"))},
		{"what nearly ends together", list(el("script", text("</scr"), text("ipt"))), list(el("script", text("</script")))},
		{"what no more ends together", list(el("script", text("</script"), text("x>"))), list(el("script", text("</scriptx>")))},
		{"what would end together, but for one that goes", list(el("script", text("</script"), text("x</script>"), text("y>"))), list(el("script", text("</scripty>")))},
		{"what ends together once one has gone", list(el("script", text("</script"), text("x</script>"), text(">"))), list(el("script"))},
		{"raw ones, deep", list(el("b", el("i", el("script", text("</"), text("script>")), text("x")))), list(el("b", el("i", el("script"), text("x"))))},
		{"ends elsewhere", list(text("</scr"), text("ipt>"), el("b", text("</"), text("b>"))), list(text("</script>"), el("b", text("</b>")))},
		{"another raw one's end", list(el("script", text("</sty"), text("le>"))), list(el("script", text("</style>")))},
	} {
		if got := model.Steady(x.l); whole(got) != whole(x.want) {
			t.Errorf("%s: %s, not %s", x.what, whole(got), whole(x.want))
		}
		if whole(steady("", x.l)) != whole(x.want) {
			t.Errorf("the test itself: %s", x.what)
		}
	}
}

// P6.2, P6.3: Steady of all rows; it is stable, steady as it is, and what was stable is it.
func TestSteadyRows(t *testing.T) {
	for l := range rows {
		got := model.Steady(l)
		if want := steady("", l); !dom.Same(got, want) {
			t.Fatalf("%s: %s, not %s", whole(l), whole(got), whole(want))
		}
		if !model.Stable(got) || !dom.Same(model.Steady(got), got) {
			t.Fatalf("%s: not steady: %s", whole(l), whole(got))
		}
		if model.Stable(l) != (dom.May(l) == api.OK && dom.Same(got, l)) {
			t.Fatalf("%s: stable: %v", whole(l), model.Stable(l))
		}
	}
}

// read is nodes as tokens tell them: a beginning closes those open ones that it does, an ending all up to the one of its name.
func read(l []api.Token) []api.Node {
	stack := []api.Node{{}}
	shut := func() {
		last := len(stack) - 1
		stack[last-1].Kids = append(stack[last-1].Kids, stack[last])
		stack = stack[:last]
	}
	for _, t := range l {
		last := &stack[len(stack)-1]
		switch t.Kind {
		case api.Begin:
			for len(stack) > 1 && closes(stack[len(stack)-1].Name, t.Name) {
				shut()
			}
			stack = append(stack, api.Node{Kind: api.Element, Name: t.Name, Attrs: t.Attrs})
			if void(t.Name) {
				shut()
			}
		case api.End:
			open := slices.ContainsFunc(stack, func(n api.Node) bool { return n.Name == t.Name })
			for open && last.Name != t.Name {
				shut()
				last = &stack[len(stack)-1]
			}
			if open {
				shut()
			}
		case api.Chars:
			last.Kids = append(last.Kids, text(t.Text))
		case api.Remark:
			last.Kids = append(last.Kids, comment(t.Text))
		}
	}
	for len(stack) > 1 {
		shut()
	}
	return stack[0].Kids
}

// P6.2: nodes that may be are stable just if they are read as what was written.
func TestReadAgain(t *testing.T) {
	for l := range rows {
		if dom.May(l) != api.OK {
			continue
		}
		again := read(token.Tokens(write.Text(l)))
		if model.Stable(l) != dom.Same(again, l) {
			t.Fatalf("%s is read as %s, stable: %v", whole(l), whole(again), model.Stable(l))
		}
	}
}

// R4, R5 of P6.1 to P6.3: no call changes what it is handed, spare room and all; what Steady answers is memory of its own, and the same again.
func TestNothingChanged(t *testing.T) {
	i := 0
	for l := range rows {
		if i++; i > 100 && i%37 != 0 {
			continue
		}
		l = sample.Roomy(l)
		before := sample.Room(l)
		model.Stable(l)
		for _, n := range l {
			model.Fits("script", n)
			model.Fits("p", n)
		}
		got := model.Steady(l)
		want := whole(got)
		if sample.Shared(l, got) {
			t.Fatalf("shared: %s", whole(l))
		}
		if again := model.Steady(l); whole(again) != want || sample.Shared(got, again) {
			t.Fatalf("not the same again: %s", whole(l))
		}
		sample.Spoil(got)
		if !reflect.DeepEqual(before, sample.Room(l)) {
			t.Fatalf("changed: %s", whole(before))
		}
		got = model.Steady(l)
		sample.Spoil(l)
		if whole(got) != want {
			t.Fatalf("a change of what was handed in is seen: %s", want)
		}
	}
}

// P6.2, P6.3: nodes as deep as the document's bound, and many in the innermost one.
func TestDeep(t *testing.T) {
	const deep, many = 10000, 50000
	wide := slices.Repeat(list(el("br"), text("x")), many/2)
	l := sample.Chain(deep, wide...)
	if !model.Stable(l) || !dom.Same(model.Steady(l), l) {
		t.Error("stable")
	}
	worse := append(slices.Clone(wide), el("p", el("p"), text("x"), comment("-->"), text("y")), text(""), el("script", text("</"), el("b"), text("script>")), el("br", text("x")))
	better := append(slices.Clone(wide), el("p", text("xy")), el("script"), el("br"))
	if model.Stable(sample.Chain(deep, worse...)) || !dom.Same(model.Steady(sample.Chain(deep, worse...)), sample.Chain(deep, better...)) {
		t.Error("worse")
	}
	inner := sample.Chain(deep-1, wide...)
	for _, parent := range []string{"br", "script", "style"} {
		if l := list(el(parent, inner...)); model.Stable(l) || !dom.Same(model.Steady(l), list(el(parent))) {
			t.Error(parent)
		}
	}
	if l := list(el("p", el("div", inner...), text("x"))); model.Stable(l) || !dom.Same(model.Steady(l), list(el("p", text("x")))) {
		t.Error("p")
	}
}

// P6.1, P6.2: many nodes, and long texts.
func TestLong(t *testing.T) {
	const many = 100000
	near := strings.Repeat("</script", many)
	must := func(what string, ok bool) {
		if !ok {
			t.Error(what)
		}
	}
	must("near", model.Fits("script", text(near)))
	must("ends", !model.Fits("script", text(near+">")))
	must("near, stable", model.Stable(list(el("script", text(near)))))
	must("ends, not stable", !model.Stable(list(el("script", text(near+">")))))
	must("pieces", dom.Same(model.Steady(list(el("script", slices.Repeat(list(text("</script")), many)...))), list(el("script", text(near)))))
	must("pieces that end", dom.Same(model.Steady(list(el("script", append(slices.Repeat(list(text("</script")), many), text(">"))...))), list(el("script"))))
	rows := slices.Repeat(list(el("tr", el("td"), el("tr"), el("td"))), many)
	must("rows", !model.Stable(rows) && dom.Same(model.Steady(rows), slices.Repeat(list(el("tr", el("td"), el("td"))), many)))
	must("comments", !model.Stable(list(comment(strings.Repeat("--", many)+">"))) && model.Stable(list(comment(strings.Repeat("--", many)))))
	must("texts", dom.Same(model.Steady(slices.Repeat(list(text("x"), comment("-->")), many)), list(text(strings.Repeat("x", many)))))
}
