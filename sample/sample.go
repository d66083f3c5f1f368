// Package sample makes texts and nodes for the tests of several layers, shows nodes as a text, and looks at the memory that they lie in.
package sample

import (
	"iter"
	"slices"
	"strconv"

	"strainer/api"
)

// Text is a text.
func Text(s string) api.Node { return api.Node{Kind: api.Text, Text: s} }

// Comment is a comment.
func Comment(s string) api.Node { return api.Node{Kind: api.Comment, Text: s} }

// Element is an element with kids.
func Element(name string, kids ...api.Node) api.Node {
	return api.Node{Kind: api.Element, Name: name, Kids: kids}
}

// With is a node with more attributes, told as names and values.
func With(n api.Node, pairs ...string) api.Node {
	for i := 0; i < len(pairs); i += 2 {
		n.Attrs = append(n.Attrs, api.Attr{Name: pairs[i], Value: pairs[i+1]})
	}
	return n
}

// Holding is a node with kids, whatever its Kind.
func Holding(n api.Node, kids ...api.Node) api.Node {
	n.Kids = kids
	return n
}

// List is nodes.
func List(l ...api.Node) []api.Node { return l }

// Chain is an element with an attribute in another one, and so on, with nodes in the innermost one.
func Chain(deep int, inner ...api.Node) []api.Node {
	for range deep {
		inner = List(With(Element("b", inner...), "x", "1"))
	}
	return inner
}

// Whole is all that nodes tell, as one text: two lists of nodes have the same one just if they are the same.
func Whole(l []api.Node) string {
	s := "["
	for _, n := range l {
		s += strconv.Itoa(n.Kind) + strconv.Quote(n.Name) + strconv.Quote(n.Text) + "("
		for _, a := range n.Attrs {
			s += strconv.Quote(a.Name) + strconv.Quote(a.Value)
		}
		s += ")" + Whole(n.Kids)
	}
	return s + "]"
}

// Changed yields every text that is s with one byte changed, left out or put in.
func Changed(s string) iter.Seq[string] {
	return func(yield func(string) bool) {
		for i := range len(s) + 1 {
			if !put(s, i, yield) || i < len(s) && !yield(s[:i]+s[i+1:]) {
				return
			}
		}
	}
}

// Rows yields all rows of some things, of as many as told at most, each a list of its own.
func Rows[T any](most int, pool ...T) iter.Seq[[]T] {
	return func(yield func([]T) bool) {
		longer(nil, most, pool, yield)
	}
}

// longer yields a row, and all that begin with it, and tells whether to go on.
func longer[T any](l []T, more int, pool []T, yield func([]T) bool) bool {
	if !yield(l) {
		return false
	}
	if more == 0 {
		return true
	}
	for _, x := range pool {
		if !longer(append(l[:len(l):len(l)], x), more-1, pool, yield) {
			return false
		}
	}
	return true
}

// put yields s with each byte ahead of, and in the place of, that one, and tells whether to go on.
func put(s string, place int, yield func(string) bool) bool {
	for c := range 256 {
		one := string([]byte{byte(c)})
		if !yield(s[:place] + one + s[place:]) {
			return false
		}
		if place < len(s) && !yield(s[:place]+one+s[place+1:]) {
			return false
		}
	}
	return true
}

// Roomy is nodes whose lists all have room to spare, with something in it.
func Roomy(l []api.Node) []api.Node {
	out := append(make([]api.Node, 0, len(l)+2), l...)
	for i := range out {
		attrs := append(make([]api.Attr, 0, len(l[i].Attrs)+2), l[i].Attrs...)
		out[i].Attrs = append(attrs, api.Attr{Name: "spare", Value: "spare"})[:len(l[i].Attrs)]
		out[i].Kids = Roomy(l[i].Kids)
	}
	return append(out, Text("spare"))[:len(l)]
}

// Room is nodes with all that their lists have room for, as new memory: what is there now, spare room and all.
func Room(l []api.Node) []api.Node {
	out := slices.Clone(l[:cap(l)])
	for i := range out {
		out[i].Attrs = slices.Clone(out[i].Attrs[:cap(out[i].Attrs)])
		out[i].Kids = Room(out[i].Kids)
	}
	return out
}

// Spoil changes all that nodes are, at every depth, spare room and all.
func Spoil(l []api.Node) {
	l = l[:cap(l)]
	for i := range l {
		attrs := l[i].Attrs[:cap(l[i].Attrs)]
		for j := range attrs {
			attrs[j] = api.Attr{Name: "spoilt", Value: "spoilt"}
		}
		Spoil(l[i].Kids)
		l[i] = api.Node{Kind: 77, Name: "spoilt", Text: "spoilt"}
	}
}

// Shared tells whether any two lists of nodes, at any depth, have memory in common, spare room and all.
func Shared(all ...[]api.Node) bool {
	m := memory{nodes: map[*api.Node]int{}, attrs: map[*api.Attr]int{}}
	return slices.ContainsFunc(all, m.met)
}

// memory is where lists that were met begin.
type memory struct {
	nodes map[*api.Node]int
	attrs map[*api.Attr]int
}

// met keeps where the lists of nodes begin, at every depth, and tells whether one of them was met already.
func (m memory) met(l []api.Node) bool {
	if cap(l) == 0 {
		return false
	}
	again := count(m.nodes, l[:1])
	for _, n := range l {
		if cap(n.Attrs) > 0 {
			again = count(m.attrs, n.Attrs[:1]) || again
		}
		again = m.met(n.Kids) || again
	}
	return again
}

// count keeps where a list begins, and tells whether it was kept already.
func count[T any](seen map[*T]int, l []T) bool {
	first := &l[0]
	seen[first]++
	return seen[first] > 1
}
