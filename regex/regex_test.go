package regex_test

import (
	"math/rand/v2"
	"reflect"
	"slices"
	"strconv"
	"strings"
	"testing"

	"strainer/api"
	"strainer/regex"
	"strainer/sample"
)

// agree holds an expression, by Match and by its net, to what it is to match.
func (w *world) agree(t *testing.T, name string, r *regex.Regex, want language) {
	t.Helper()
	for i, s := range w.texts {
		if got := r.Match(s); got != (want>>i&1 == 1) {
			t.Fatalf("%q and %q: %v", name, s, got)
		}
	}
	for _, s := range []string{"\n", "\x7f", "a\x80", "\x1fa", "a\x00a", "\u20ac"} {
		if r.Match(s) {
			t.Fatalf("%q and %q, which are no signs", name, s)
		}
	}
	if got := w.accepted(t, r.Net()); got != want {
		t.Fatalf("the net of %q: %b, not %b", name, got, want)
	}
}

// check holds a text to all that the chapter says of it: P9.1, P9.3 and P9.4.
func (w *world) check(t *testing.T, s string) {
	t.Helper()
	want, e := w.expression(s), api.OK
	switch {
	case len(s) > 60:
		e = api.ErrLong
	case !want.is:
		e = api.ErrForm
	}
	r, got := regex.Parse(s)
	if got != e || (r == nil) != (e != api.OK) {
		t.Fatalf("%q: %v %v, not %v", s, r, got, e)
	}
	if r == nil {
		return
	}
	w.agree(t, s, r, want.matches)
	w.printed(t, s, r, want.matches)
}

// printed holds what an expression is printed as to P9.3 and P9.4.
func (w *world) printed(t *testing.T, s string, r *regex.Regex, want language) {
	t.Helper()
	p := r.Print()
	if got := w.expression(p); !got.is || got.matches != want {
		t.Fatalf("%q is printed as %q: %v", s, p, got)
	}
	if len(p) > len(s) { // not promised, but so P9.4 is asked of all
		t.Fatalf("%q is printed as %q, which is longer", s, p)
	}
	again, e := regex.Parse(p)
	if e != api.OK {
		t.Fatalf("%q is printed as %q: %v", s, p, e)
	}
	w.agree(t, p, again, want)
}

// rows calls for all that comes of some pieces, one behind the other, of as many as told at most.
func rows(most int, pieces string, call func(s string)) {
	for l := range sample.Rows(most, strings.Split(pieces, " ")...) {
		call(strings.Join(l, ""))
	}
}

// P9.1, P9.3: what is written out.
func TestExamples(t *testing.T) {
	for _, x := range []struct {
		s       string
		yes, no []string
	}{
		{"a(b|c)*", []string{"a", "acb", "abcbc"}, []string{"", "b", "ab1", "aa"}},
		{"", []string{""}, []string{"a", " "}},
		{"|", []string{""}, []string{"|"}},
		{"a|", []string{"a", ""}, []string{"b", "a|"}},
		{"|a||b", []string{"", "a", "b"}, []string{"ab"}},
		{"()", []string{""}, []string{"()"}},
		{"()*a(|)+", []string{"a"}, []string{"", "aa"}},
		{"ab|cd", []string{"ab", "cd"}, []string{"abd", "acd", "abcd"}},
		{"ab*", []string{"a", "abb"}, []string{"", "abab"}},
		{"(ab)*", []string{"", "abab"}, []string{"abb", "a", "aba"}},
		{"(ab)+", []string{"ab", "abab"}, []string{"", "abb"}},
		{"(ab)?c", []string{"c", "abc"}, []string{"ac", "ababc"}},
		{"a+?", []string{"", "a", "aa"}, []string{"b"}},
		{"a?+", []string{"", "a", "aa"}, []string{"b"}},
		{"a**", []string{"", "a", "aaa"}, []string{"b"}},
		{"a++", []string{"a", "aaa"}, []string{""}},
		{"a??", []string{"", "a"}, []string{"aa"}},
		{"(a*b)+", []string{"b", "abaab"}, []string{"", "a", "ba"}},
		{"(a|b+)?c", []string{"c", "ac", "bbc"}, []string{"aac", "abc"}},
		{"((a))", []string{"a"}, []string{"aa", "(a)"}},
		{"((a|b)c|d)e", []string{"ace", "bce", "de"}, []string{"e", "ade"}},
		{".", []string{"a", ".", " ", "~"}, []string{"", "ab", "\x1f", "\x7f", "\n", "\x80", "\u00e9"}},
		{".*", []string{"", "a\\[]~ "}, []string{"a\n", "\ta", "a\xffb"}},
		{`\.\*\\`, []string{`.*\`}, []string{`a*\`, `.\`}},
		{`\a\ \n`, []string{"a n"}, []string{"a\n", `\a\ \n`}},
		{"a b ", []string{"a b "}, []string{"ab", "a  b "}},
		{"^a$-{2},/", []string{"^a$-{2},/"}, []string{"a", "aa"}},
		{"[a-c]+", []string{"a", "cab"}, []string{"", "d", "abd"}},
		{"[a-cx-z0]", []string{"a", "b", "c", "x", "y", "z", "0"}, []string{"d", "w", "-", "1", ""}},
		{"[a-a]", []string{"a"}, []string{"-", "b", "`"}},
		{"[^a]", []string{"b", "1", " ", "~", "^"}, []string{"a", "bb", "", "\n", "\x7f"}},
		{"[^a-y]", []string{"z", "^"}, []string{"a", "y", "m"}},
		{"[^ -~]", []string{}, []string{"", " ", "a", "~", "\n", "\x7f"}},
		{"[^ -~]*", []string{""}, []string{" ", "a", "~"}},
		{"[ -~]", []string{" ", "a", "~"}, []string{"", "\x1f", "\x7f"}},
		{`[\]\-]`, []string{"]", "-"}, []string{"a", `\`, ""}},
		{`[\^a]`, []string{"^", "a"}, []string{"b", `\`}},
		{`[^\^]`, []string{"a", `\`}, []string{"^"}},
		{`[\--\]]`, []string{"-", "A", "]"}, []string{",", "^", "a"}},
		{`[\a-\c]`, []string{"a", "b", "c"}, []string{"d", `\`, "-"}},
		{"[.(|*[]", []string{".", "(", "|", "*", "["}, []string{"a", ")", "]"}},
		{"[a|b]", []string{"a", "b", "|"}, []string{"c", ""}},
		{"[[]", []string{"["}, []string{"]"}},
		{"[)-+]", []string{")", "*", "+"}, []string{"(", ",", "-"}},
		{`[a-a\-z]`, []string{"a", "-", "z"}, []string{"b", "y"}},
		{"[a-ca-c]", []string{"b"}, []string{"d"}},
	} {
		r, e := regex.Parse(x.s)
		if e != api.OK {
			t.Errorf("%q: %v", x.s, e)
			continue
		}
		p, e := regex.Parse(r.Print())
		if e != api.OK {
			t.Errorf("%q is printed as %q: %v", x.s, r.Print(), e)
			continue
		}
		for _, s := range x.yes {
			if !r.Match(s) || !p.Match(s) {
				t.Errorf("%q does not match %q, or %q does not", x.s, s, r.Print())
			}
		}
		for _, s := range x.no {
			if r.Match(s) || p.Match(s) {
				t.Errorf("%q matches %q, or %q does", x.s, s, r.Print())
			}
		}
	}
}

// P9.1: what is none, and what is too long.
func TestWrong(t *testing.T) {
	for _, s := range []string{
		"(", ")", "(a", "a)", "(()", "())", "(a|b", "a|b)", "(a))", "*", "+", "?", "*a", "a|*", "(*)", "(+a)", "|?", "a(?b)",
		"[", "]", "[]", "[]]", "[]a]", "[^]", "[^", "[a", "[a-", "[a-]", "[a-b", "[a-]|b", "[-]", "[-a]", "[--a]", "[a-b-c]", "[a--]", "[b-a]", "[~- ]", "[a-\\", "[\\", "[a\\]", "[^^]", "[a^]", "[a^b]", "[^-a]", "[^a-]", "[]-a]", "[a-]]", "[a-^]", "a]", "[[]]",
		"\\", "a\\", "(\\", "(\\)", "\\\n", "\\\x7f", "[\\\n]", "\x7f", "\x1f", "\n", "a\n", "\x00", "\xff", "\u20ac", "[\x7f]", "[ -\x7f]", "[\x1f-a]", "[\u20ac]", "(\n)", "a|\t", "a\x80*",
		strings.Repeat("(", 60), strings.Repeat("[", 60), strings.Repeat("\\", 59), strings.Repeat("(", 31) + strings.Repeat(")", 29), "\n" + strings.Repeat("a", 59),
	} {
		if r, e := regex.Parse(s); r != nil || e != api.ErrForm {
			t.Errorf("%q: %v %v", s, r, e)
		}
	}
	for _, s := range []string{
		strings.Repeat("a", 61), strings.Repeat("(", 61), strings.Repeat("\n", 61), strings.Repeat("a", 60) + "\xff", strings.Repeat("a", 60) + "*", strings.Repeat("\u20ac", 21), strings.Repeat("a", 1<<20), strings.Repeat("(", 1<<20),
	} {
		if r, e := regex.Parse(s); r != nil || e != api.ErrLong {
			t.Errorf("%d bytes: %v %v", len(s), r, e)
		}
	}
	for _, s := range []string{strings.Repeat("a", 60), strings.Repeat("(", 30) + strings.Repeat(")", 30), strings.Repeat("|", 60), strings.Repeat("\\", 60), "a" + strings.Repeat("*", 59), "[" + strings.Repeat("a", 58) + "]"} {
		letters.check(t, s)
	}
}

// P9.1, P9.3, P9.4: all rows of some pieces.
func TestRows(t *testing.T) {
	for _, x := range []struct {
		most   int
		pieces string
		w      *world
	}{
		{4, `( ) [ ] | * + ? . \ ^ - a b`, specials},
		{6, "( ) | * a", letters},
		{5, "( ) | + ? a b", letters},
		{5, `[ ] ^ - \ a b`, specials},
		{4, "[ [^ ] a-b \\ \\- ^ ( )* .", specials},
		{4, "(a|b) (ab)* a* b+ a? | ( ) (b|)", letters},
		{3, "a \x1f \x7f \xff \n [ ] \\ -", specials},
	} {
		rows(x.most, x.pieces, func(s string) { x.w.check(t, s) })
	}
}

// P9.1, P9.3, P9.4: expressions with any byte changed, left out or put in.
func TestChanged(t *testing.T) {
	for _, s := range []string{`a(b|[^a-b\]])*\.`, "((a|b)+|)?b", `[\--^]`, `[^\^-a.]+-`} {
		for c := range sample.Changed(s) {
			specials.check(t, c)
		}
	}
}

// some is an expression by chance.
func some(r *rand.Rand, deep int) string {
	if deep == 0 {
		return []string{"a", "b", ".", `\a`, "[ab]", "[^a]", "[a-b]", "", "()"}[r.IntN(9)]
	}
	s := some(r, deep-1)
	switch r.IntN(6) {
	case 0:
		return s + "|" + some(r, deep-1)
	case 1, 2:
		return "(" + s + ")" + "*+?"[r.IntN(3):][:1]
	case 3:
		return "(" + s + ")(" + some(r, deep-1) + ")"
	case 4:
		return s + some(r, deep-1)
	}
	return "(" + s + "|" + some(r, deep-1) + ")"
}

// P9.1, P9.3, P9.4: longer expressions.
func TestChance(t *testing.T) {
	r := rand.New(rand.NewPCG(9, 1))
	for i := range 3000 {
		letters.check(t, some(r, 1+i%6))
	}
}

// matching is which bytes an expression matches, each as a text.
func matching(r *regex.Regex) [256]bool {
	var out [256]bool
	for c := range out {
		out[c] = r.Match(string([]byte{byte(c)}))
	}
	return out
}

// where is the bytes for which something is so.
func where(is func(c byte) bool) [256]bool {
	var out [256]bool
	for c := range out {
		out[c] = is(byte(c))
	}
	return out
}

// leads is which bytes a net accepts, each as a text.
func leads(n api.Net) [256]bool {
	from := make([][]api.Edge, n.States)
	for _, e := range n.Edges {
		from[e.From] = append(from[e.From], e)
	}
	at := reached(from, []int{n.Start})
	return where(func(c byte) bool { return slices.Contains(passed(from, at, c), n.End) })
}

// class holds an expression to the signs that it is to match, each as a text, and what it is printed as to the same.
func class(t *testing.T, s string, is func(c byte) bool) {
	t.Helper()
	want := where(func(c byte) bool { return 32 <= c && c <= 126 && is(c) })
	r, e := regex.Parse(s)
	if e != api.OK || matching(r) != want || leads(r.Net()) != want {
		t.Fatalf("%q: %v", s, e)
	}
	p := r.Print()
	again, e := regex.Parse(p)
	if e != api.OK || matching(again) != want || len(p) > len(s) {
		t.Fatalf("%q is printed as %q: %v", s, p, e)
	}
}

// P9.1, P9.3, P9.4: every byte, wherever a sign may stand: itself, and behind a `\`.
func TestSigns(t *testing.T) {
	for c := range 256 {
		one := string([]byte{byte(c)})
		is := func(d byte) bool { return int(d) == c }
		not := func(d byte) bool { return int(d) != c }
		sign := 32 <= c && c <= 126
		try := func(s string, matches func(byte) bool) {
			if sign {
				class(t, s, matches)
			} else if r, e := regex.Parse(s); r != nil || e != api.ErrForm {
				t.Errorf("%q: %v %v", s, r, e)
			}
		}
		atoms, items := []string{"\\" + one}, []string{"\\" + one}
		if !strings.Contains(`\()[]|*+?.`, one) {
			atoms = append(atoms, one)
		}
		if !strings.Contains(`\]-^`, one) {
			items = append(items, one)
		}
		for _, s := range atoms {
			try(s, is)
			try("("+s+")", is)
			try("[^ -~]|"+s, is)
			try("()"+s, is)
		}
		for _, s := range items {
			try("["+s+"]", is)
			try("["+s+"-"+s+"]", is)
			try("["+s+s+"]", is)
			try("[^"+s+"]", not)
			try("[^"+s+"-"+s+s+"]", not)
		}
	}
	class(t, ".", func(byte) bool { return true })
	class(t, "(.|.)", func(byte) bool { return true })
}

// written is a sign as an item of a class has it.
func written(c byte) string {
	if strings.IndexByte(`\]-^`, c) >= 0 {
		return string([]byte{'\\', c})
	}
	return string([]byte{c})
}

// P9.1, P9.3, P9.4: all signs from one to another one.
func TestSpans(t *testing.T) {
	for c := byte(32); c <= 126; c++ {
		for d := byte(32); d <= 126; d++ {
			items := written(c) + "-" + written(d)
			if d < c {
				for _, s := range []string{"[" + items + "]", "[^" + items + "]", "[" + written(d) + items + "]"} {
					if r, e := regex.Parse(s); r != nil || e != api.ErrForm {
						t.Fatalf("%q: %v %v", s, r, e)
					}
				}
				continue
			}
			class(t, "["+items+"]", func(x byte) bool { return c <= x && x <= d })
			class(t, "[^"+items+"]", func(x byte) bool { return x < c || d < x })
		}
	}
}

// P9.1, P9.3, P9.4: classes of several items.
func TestClasses(t *testing.T) {
	r := rand.New(rand.NewPCG(9, 2))
	for range 3000 {
		var in [256]bool
		s := ""
		for range 1 + r.IntN(14) {
			c, d := byte(32+r.IntN(95)), byte(32+r.IntN(95))
			if c > d || r.IntN(3) > 0 {
				d = c
			}
			if s += written(c); c != d {
				s += "-" + written(d)
			}
			for x := c; x <= d; x++ {
				in[x] = true
			}
		}
		class(t, "["+s+"]", func(x byte) bool { return in[x] })
		class(t, "[^"+s+"]", func(x byte) bool { return !in[x] })
	}
}

// P9.2: what matches a text alone.
func TestLiteral(t *testing.T) {
	for c := range 256 {
		one := string([]byte{byte(c)})
		is := where(func(d byte) bool { return int(d) == c && 32 <= c && c <= 126 })
		if r := regex.Literal(one); matching(r) != is || leads(r.Net()) != is || r.Match("") || r.Match(one+one) {
			t.Errorf("%q", one)
		}
		if 32 <= c && c <= 126 {
			continue
		}
		for _, s := range []string{one, "a" + one, one + "a", "a" + one + "b"} {
			r := regex.Literal(s)
			for _, u := range []string{s, "", "a", "b", "ab", "a b", one} {
				if r.Match(u) {
					t.Errorf("%q matches %q", s, u)
				}
			}
			letters.agree(t, s, r, 0)
			letters.agree(t, "none or more of "+s, regex.Many(r), empty)
			letters.agree(t, "a or "+s, regex.Or(regex.Literal("a"), r), 1<<letters.place["a"])
			letters.agree(t, "a, then "+s, regex.Then(regex.Literal("a"), r), 0)
		}
	}
	for _, w := range []*world{letters, specials} {
		for i, s := range w.texts {
			w.agree(t, s, regex.Literal(s), 1<<i)
		}
	}
	long := strings.Repeat(`.*a|(b)[c]\`, 10000)
	r := regex.Literal(long)
	if !r.Match(long) || r.Match(long[1:]) || r.Match(long[:len(long)-1]) || r.Match(long+"a") || r.Match("") {
		t.Error("a long text")
	}
	if n := r.Net(); n.States <= len(long) || len(n.Edges) < len(long) {
		t.Error(n.States, len(n.Edges))
	}
}

// told is an expression, and what it matches.
type told struct {
	r       *regex.Regex
	matches language
}

// joined is an expression by chance, joined of some that were made already and of new ones.
func joined(t *testing.T, r *rand.Rand, made []told) told {
	var l []*regex.Regex
	var of []language
	for range r.IntN(4) {
		x := made[r.IntN(len(made))]
		l, of = append(l, x.r), append(of, x.matches)
	}
	out := told{}
	before := slices.Clone(l)
	switch r.IntN(5) {
	case 0, 1:
		out = told{regex.Or(l...), 0}
		for _, x := range of {
			out.matches |= x
		}
	case 2, 3:
		out = told{regex.Then(l...), empty}
		for _, x := range of {
			out.matches = letters.then(out.matches, x)
		}
	case 4:
		x := made[r.IntN(len(made))]
		out = told{regex.Many(x.r), letters.many(x.matches)}
	}
	if !slices.Equal(l, before) {
		t.Fatal("a list was changed")
	}
	for i := range l { // what was handed in is not kept
		l[i] = regex.Literal("bad")
	}
	return out
}

// P9.2, P9.3: expressions joined, of none, of one, of several, of the same ones, and joined again.
func TestJoined(t *testing.T) {
	r := rand.New(rand.NewPCG(9, 3))
	for range 300 {
		var made []told
		for _, s := range []string{"", "a", "b", "ab", "\n"} {
			i, is := letters.place[s]
			x := told{regex.Literal(s), 0}
			if is {
				x.matches = 1 << i
			}
			made = append(made, x)
		}
		for _, s := range []string{"a|b", "a*b", ".", "(ab)?", "[^a]+"} {
			p, e := regex.Parse(s)
			if e != api.OK {
				t.Fatal(s, e)
			}
			made = append(made, told{p, letters.expression(s).matches})
		}
		for range 20 {
			made = append(made, joined(t, r, made))
		}
		for _, x := range made { // at the end, as none may have changed
			letters.agree(t, "joined", x.r, x.matches)
		}
	}
}

// P9.2: the joins' own edges.
func TestJoins(t *testing.T) {
	a, b := regex.Literal("a"), regex.Literal("b")
	at := func(texts ...string) language {
		var out language
		for _, s := range texts {
			out |= 1 << letters.place[s]
		}
		return out
	}
	for i, x := range []told{
		{regex.Or(), 0}, {regex.Then(), empty}, {regex.Or(nil...), 0}, {regex.Then(nil...), empty},
		{regex.Or(a), at("a")}, {regex.Then(a), at("a")}, {regex.Or(a, b), at("a", "b")}, {regex.Or(a, a, a), at("a")},
		{regex.Then(a, b), at("ab")}, {regex.Then(b, a), at("ba")}, {regex.Then(a, a, b), at("aab")},
		{regex.Many(a), at("", "a", "aa", "aaa", "aaaa", "aaaaa")}, {regex.Many(regex.Then(a, b)), at("", "ab", "abab")}, {regex.Many(regex.Or()), empty}, {regex.Many(regex.Then()), empty},
		{regex.Then(a, regex.Or(), b), 0}, {regex.Then(a, regex.Then(), b), at("ab")}, {regex.Or(a, regex.Or()), at("a")}, {regex.Or(a, regex.Then()), at("a", "")},
		{regex.Then(regex.Or(a, b), regex.Or(a, b)), at("aa", "ab", "ba", "bb")}, {regex.Or(regex.Then(a, b), b), at("ab", "b")},
		{regex.Then(regex.Many(a), regex.Many(a), b), at("b", "ab", "aab", "aaab", "aaaab")}, {regex.Many(regex.Many(regex.Then(b, b))), at("", "bb", "bbbb")},
	} {
		letters.agree(t, "join "+strconv.Itoa(i), x.r, x.matches)
	}
	if regex.Or(a) == a || regex.Then(a) == a || regex.Many(a) == a {
		t.Error("what was handed in was handed out")
	}
}

// R4, R5: what is told is the same each time, and new memory.
func TestAgain(t *testing.T) {
	for _, s := range []string{"a(b|c)*", "[^a-c]+|((x|y)?z)*", "", "[^ -~]"} {
		r, _ := regex.Parse(s)
		twin, _ := regex.Parse(s)
		n, p := r.Net(), r.Print()
		other := r.Net()
		for i := range other.Edges {
			other.Edges[i] = api.Edge{From: 77, To: 77}
		}
		for range 5 {
			if !reflect.DeepEqual(r.Net(), n) || !reflect.DeepEqual(twin.Net(), n) || r.Print() != p || twin.Print() != p {
				t.Errorf("%q is told as something else again", s)
			}
			r.Match("abcxyz")
		}
	}
}

// R1 and the bound: parts as deep as they may stand.
func TestDeep(t *testing.T) {
	a, b := regex.Literal("a"), regex.Literal("b")
	many, left, right, or, all := a, a, a, a, a
	for i := range 9990 { // and what stands in them is a few levels deep
		many = regex.Many(many)
		left = regex.Then(left, b)
		right = regex.Then(b, right)
		or = regex.Or(or, regex.Then(b, b))
		switch i % 3 {
		case 0:
			all = regex.Many(all)
		case 1:
			all = regex.Or(regex.Then(), all, b)
		case 2:
			all = regex.Then(all, regex.Many(b))
		}
	}
	bs := strings.Repeat("b", 9990)
	if !left.Match("a"+bs) || left.Match("a"+bs[1:]) || left.Match(bs+"a") || !right.Match(bs+"a") || right.Match(bs) {
		t.Error("then")
	}
	for _, x := range []struct {
		r       *regex.Regex
		matches language
	}{
		{many, letters.many(1 << letters.place["a"])}, {or, 1<<letters.place["a"] | 1<<letters.place["bb"]}, {all, 1<<len(letters.texts) - 1}, {left, 0}, {right, 0},
	} {
		letters.agree(t, "deep", x.r, x.matches)
	}
	parens := strings.Repeat("(", 29) + "a" + strings.Repeat(")", 29) + "*"
	letters.check(t, parens)
	letters.check(t, strings.Repeat("(", 20)+"a"+strings.Repeat("*)", 19)+")")
	letters.check(t, strings.Repeat("(", 20)+"a"+strings.Repeat("+)", 19)+")")
}

// R1: long texts, whatever ways there are to match their beginnings.
func TestLong(t *testing.T) {
	as := strings.Repeat("a", 300000)
	for _, x := range []struct {
		s       string
		yes, no []string
	}{
		{"((a*)*)*b", []string{as + "b", "b"}, []string{as, as + "bb"}},
		{"((a+)+)+b", []string{as + "b", "ab"}, []string{as, "b" + as}},
		{"((a?)*a?)*(a|aa)*b?", []string{as, as + "b", ""}, []string{as + "bb"}},
		{"(a|a|aa)*c", []string{as + "c", "c"}, []string{as, as + "b"}},
		{".*.*.*.*x", []string{as + "x", as + "xx"}, []string{as, as + "x\n", as + "\nx"}},
		{"(.*a){20}", []string{"a{20}", as + "{20}"}, []string{as}},
		{"a?a?a?a?a?a?a?a?a?a?aaaaaaaaaa", []string{as[:10], as[:20], as[:13]}, []string{as[:9], as[:21], as}},
		{"([^b]|b[^b])*", []string{as, as + "ba" + as}, []string{as + "b", as + "bb" + as}},
	} {
		r, e := regex.Parse(x.s)
		if e != api.OK {
			t.Fatal(x.s, e)
		}
		for _, s := range x.yes {
			if !r.Match(s) {
				t.Errorf("%q does not match %d bytes", x.s, len(s))
			}
		}
		for _, s := range x.no {
			if r.Match(s) {
				t.Errorf("%q matches %d bytes", x.s, len(s))
			}
		}
	}
}

// R1: many parts, and such as stand at many places at once.
func TestShared(t *testing.T) {
	var l []*regex.Regex
	for i := range 50000 {
		l = append(l, regex.Literal(strings.Repeat("ab", i%7)+"b"))
	}
	if r := regex.Or(l...); !r.Match("ababb") || r.Match("aba") {
		t.Error("many branches")
	}
	if r := regex.Many(regex.Then(l...)); !r.Match("") || r.Match("b") {
		t.Error("many, one behind the other")
	}
	r, then, or := regex.Literal("a"), regex.Literal("a"), regex.Literal("a")
	for range 60 {
		r = regex.Or(regex.Then(r, regex.Literal("b")), r)
		then, or = regex.Then(then, then), regex.Or(or, or)
	}
	letters.agree(t, "a, then b 60 times at most", r, 1<<letters.place["a"]|1<<letters.place["ab"]|1<<letters.place["abb"]|1<<letters.place["abbb"]|1<<letters.place["abbbb"])
	letters.agree(t, "a or a", or, 1<<letters.place["a"])
	bs := strings.Repeat("b", 60)
	if !r.Match("a"+bs) || r.Match("ab"+bs) || then.Match("") || then.Match(strings.Repeat("a", 10000)) {
		t.Error("parts that are doubled")
	}
}

// What the layers above ask of nets: those of the longest expressions, and of eight words of 40 signs, have no more than MaxStates states (chapters 10 and 12).
func TestSmall(t *testing.T) {
	var words []*regex.Regex
	for c := range 8 {
		words = append(words, regex.Literal(strings.Repeat(string(rune('a'+c))+"x", 20)))
	}
	if n := regex.Or(words...).Net(); n.States > api.MaxStates {
		t.Error(n.States)
	}
	for _, s := range []string{strings.Repeat("a", 60), strings.Repeat("a*", 30), "a" + strings.Repeat("+", 59), "a" + strings.Repeat("?", 59), strings.Repeat("()", 30), strings.Repeat("()*", 20), strings.Repeat("|", 60), strings.Repeat("a|", 30), strings.Repeat("(|)+", 15), strings.Repeat("(a+b)+", 10), strings.Repeat("[a]", 20)} {
		r, e := regex.Parse(s)
		if e != api.OK {
			t.Fatal(s, e)
		}
		if n := r.Net(); n.States > api.MaxStates {
			t.Error(s, n.States)
		}
	}
}
