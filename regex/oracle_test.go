package regex_test

import (
	"slices"
	"strings"
	"testing"

	"strainer/api"
	"strainer/sample"
)

// language is which of a world's texts match, a bit of each.
type language uint64

// world is the texts that expressions are asked of: all of some signs up to a length, the shorter ones first; 64 at most.
type world struct {
	texts []string
	place map[string]int
	joint [64][64]int // the place of two texts, one behind the other; -1, if they are too long together
}

// worldOf is the world of all texts of some signs up to a length.
func worldOf(signs string, most int) *world {
	w := &world{place: map[string]int{}}
	for l := range sample.Rows(most, strings.Split(signs, "")...) {
		w.texts = append(w.texts, strings.Join(l, ""))
	}
	slices.SortStableFunc(w.texts, func(a, b string) int { return len(a) - len(b) })
	for i, s := range w.texts {
		w.place[s] = i
	}
	for i, s := range w.texts {
		for j, u := range w.texts {
			k, is := w.place[s+u]
			if !is {
				k = -1
			}
			w.joint[i][j] = k
		}
	}
	return w
}

// These worlds are of few signs and long texts, and of signs that are special and short texts.
var (
	letters  = worldOf("ab", 5)
	specials = worldOf(`a-^]\.*`, 2)
)

// only is the texts of one sign for which that is so.
func (w *world) only(is func(c byte) bool) language {
	var out language
	for i, s := range w.texts {
		if len(s) == 1 && is(s[0]) {
			out |= 1 << i
		}
	}
	return out
}

// then is a text of a and one of b, one behind the other.
func (w *world) then(a, b language) language {
	var out language
	for i := range w.texts {
		for j := range w.texts {
			if a>>i&1 == 1 && b>>j&1 == 1 && w.joint[i][j] >= 0 {
				out |= 1 << w.joint[i][j]
			}
		}
	}
	return out
}

// empty is the empty text alone.
const empty language = 1

// many is texts of a, none or more.
func (w *world) many(a language) language {
	out := empty
	for {
		more := out | w.then(out, a)
		if more == out {
			return out
		}
		out = more
	}
}

// answer is whether a piece of a text is of some form, and what it matches then.
type answer struct {
	is      bool
	matches language
}

// grammar tells, of every piece of a text, whether it is an expression, a branch and so on, by the chapter's words alone: it tries all ways to cut it.
type grammar struct {
	*world
	s     string
	known map[[3]int]answer
}

// expression is what a whole text is.
func (w *world) expression(s string) answer {
	g := grammar{w, s, map[[3]int]answer{}}
	return g.expression(0, len(s))
}

// once is an answer that is not looked for twice.
func (g grammar) once(form, i, j int, look func() answer) answer {
	k := [3]int{form, i, j}
	a, is := g.known[k]
	if !is {
		a = look()
		g.known[k] = a
	}
	return a
}

func (g grammar) expression(i, j int) answer {
	return g.once(1, i, j, func() answer {
		if a := g.branch(i, j); a.is {
			return a
		}
		for k := i; k < j; k++ {
			if g.s[k] != '|' {
				continue
			}
			if a, b := g.branch(i, k), g.expression(k+1, j); a.is && b.is {
				return answer{true, a.matches | b.matches}
			}
		}
		return answer{}
	})
}

func (g grammar) branch(i, j int) answer {
	if i == j {
		return answer{true, empty}
	}
	return g.once(2, i, j, func() answer {
		for k := i + 1; k <= j; k++ {
			if a := g.piece(i, k); a.is {
				if b := g.branch(k, j); b.is {
					return answer{true, g.then(a.matches, b.matches)}
				}
			}
		}
		return answer{}
	})
}

func (g grammar) piece(i, j int) answer {
	return g.once(3, i, j, func() answer {
		if a := g.atom(i, j); a.is || i == j {
			return a
		}
		a := g.answerAhead(i, j)
		switch {
		case !a.is:
			return a
		case g.s[j-1] == '*':
			return answer{true, g.many(a.matches)}
		case g.s[j-1] == '+':
			return answer{true, g.then(a.matches, g.many(a.matches))}
		}
		return answer{true, empty | a.matches}
	})
}

// answerAhead is the piece ahead of the mark that ends another piece.
func (g grammar) answerAhead(i, j int) answer {
	if strings.IndexByte("*+?", g.s[j-1]) < 0 {
		return answer{}
	}
	return g.piece(i, j-1)
}

func (g grammar) atom(i, j int) answer {
	s := g.s[i:j]
	if c, is := sign(s, `\()[]|*+?.`); is {
		return answer{true, g.only(func(d byte) bool { return d == c })}
	}
	switch {
	case s == ".":
		return answer{true, g.only(func(byte) bool { return true })}
	case strings.HasPrefix(s, "(") && strings.HasSuffix(s, ")") && len(s) > 1:
		return g.expression(i+1, j-1)
	case strings.HasPrefix(s, "[^") && strings.HasSuffix(s, "]"):
		a := g.items(i+2, j-1)
		a.matches = g.only(func(byte) bool { return a.is }) &^ a.matches
		return a
	case strings.HasPrefix(s, "[") && strings.HasSuffix(s, "]"):
		return g.items(i+1, j-1)
	}
	return answer{}
}

func (g grammar) items(i, j int) answer {
	return g.once(4, i, j, func() answer {
		for k := i + 1; k <= j; k++ {
			a := g.item(g.s[i:k])
			if !a.is {
				continue
			}
			if b := g.items(k, j); b.is || k == j {
				return answer{true, a.matches | b.matches}
			}
		}
		return answer{}
	})
}

func (g grammar) item(s string) answer {
	for k := 0; k <= len(s); k++ {
		c, first := sign(s[:k], `\]-^`)
		d, last := c, k == len(s)
		if strings.HasPrefix(s[k:], "-") {
			d, last = sign(s[k+1:], `\]-^`)
		}
		if first && last && c <= d {
			return answer{true, g.only(func(e byte) bool { return c <= e && e <= d })}
		}
	}
	return answer{}
}

// sign is the sign that a text stands for, where some are special.
func sign(s, special string) (byte, bool) {
	if len(s) == 2 && s[0] == '\\' {
		s, special = s[1:], ""
	}
	if len(s) != 1 || s[0] < 32 || s[0] > 126 || strings.Contains(special, s) {
		return 0, false
	}
	return s[0], true
}

// accepted is the texts by which a net has a way, all of its states and edges being what a net's are.
func (w *world) accepted(t *testing.T, n api.Net) language {
	t.Helper()
	is := func(state int) bool { return 0 <= state && state < n.States }
	if !is(n.Start) || !is(n.End) {
		t.Fatal("no state", n)
	}
	from := make([][]api.Edge, n.States)
	for _, e := range n.Edges {
		if !is(e.From) || !is(e.To) || e.Low <= e.High && (e.Low < 32 || e.High > 126) {
			t.Fatal("an edge", e, n)
		}
		from[e.From] = append(from[e.From], e)
	}
	var out language
	at := make([][]int, len(w.texts)) // where each text leads
	for i, s := range w.texts {
		if s == "" {
			at[i] = reached(from, []int{n.Start})
		} else {
			at[i] = passed(from, at[w.place[s[:len(s)-1]]], s[len(s)-1])
		}
		if slices.Contains(at[i], n.End) {
			out |= 1 << i
		}
	}
	return out
}

// passed is the states to which a sign leads.
func passed(from [][]api.Edge, l []int, c byte) []int {
	var out []int
	for _, i := range l {
		for _, e := range from[i] {
			if e.Low <= c && c <= e.High {
				out = append(out, e.To)
			}
		}
	}
	return reached(from, out)
}

// reached is the states that are reached by no sign, each once.
func reached(from [][]api.Edge, l []int) []int {
	met := make([]bool, len(from))
	var out []int
	for len(l) > 0 {
		i := l[len(l)-1]
		l = l[:len(l)-1]
		if met[i] {
			continue
		}
		met[i] = true
		out = append(out, i)
		for _, e := range from[i] {
			if e.Low > e.High {
				l = append(l, e.To)
			}
		}
	}
	return out
}
