package regex

import (
	"strings"

	"strainer/api"
)

// signs matches each sign of a set: of each sign, in order, whether it is one of them.
type signs [api.Signs]bool

// span is signs side by side.
type span struct {
	low, high byte
}

// The signs that stand for themselves only behind a `\`: outside of classes, and in them.
const (
	special        = `\()[]|*+?.`
	specialInClass = `\]-^`
)

// between is the signs from low to high; bytes that are no signs are left out.
func between(low, high byte) signs {
	var p signs
	for i := range p {
		c := byte(api.First + i)
		p[i] = low <= c && c <= high
	}
	return p
}

// has tells whether a byte is one of the signs.
func (p signs) has(c byte) bool {
	return api.First <= c && c <= api.Last && p[c-api.First]
}

// with is the signs of both.
func (p signs) with(q signs) signs {
	for i := range p {
		p[i] = p[i] || q[i]
	}
	return p
}

// others is all other signs.
func (p signs) others() signs {
	for i := range p {
		p[i] = !p[i]
	}
	return p
}

// spans is the signs as spans, the fewest, rising.
func (p signs) spans() []span {
	var out []span
	for i, is := range p {
		if !is {
			continue
		}
		c := byte(api.First + i)
		if i == 0 || !p[i-1] {
			out = append(out, span{c, c})
		}
		out[len(out)-1].high = c
	}
	return out
}

func (p signs) instead(*walk, int) []int { return nil }

func (p signs) print(out *strings.Builder) {
	l := p.spans()
	switch {
	case p == between(api.First, api.Last):
		out.WriteByte('.')
	case len(l) == 1 && l[0].low == l[0].high:
		out.WriteString(escaped(l[0].low, special))
	default:
		out.WriteString(p.class())
	}
}

// class is the signs as a class: as their items or as those of all others, whichever are shorter.
func (p signs) class() string {
	in, not := p.items(), "^"+p.others().items()
	if p == (signs{}) || len(not) < len(in) { // a class has an item at least
		in = not
	}
	return "[" + in + "]"
}

// items is the signs as items of a class.
func (p signs) items() string {
	s := ""
	for _, x := range p.spans() {
		s += escaped(x.low, specialInClass)
		if x.high > x.low+1 {
			s += "-"
		}
		if x.high > x.low {
			s += escaped(x.high, specialInClass)
		}
	}
	return s
}

// escaped is a sign as it is written where some are special.
func escaped(c byte, special string) string {
	s := string(rune(c))
	if strings.Contains(special, s) {
		s = `\` + s
	}
	return s
}
