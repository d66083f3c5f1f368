package regex

import "strings"

// part is a part of an expression. None changes once it is made, so that expressions may have parts in common.
type part interface {
	// instead is what may be left instead of the part and then that rest, as rests' numbers; none of signs.
	instead(w *walk, then int) []int
	// print writes the part's text.
	print(out *strings.Builder)
}

// sequence matches what its parts do, one behind the other.
type sequence struct {
	parts []part
}

// choice matches what one of its parts does.
type choice struct {
	parts []part
}

// repeat matches what its part does, as many times as its mark says: `*`, `+` or `?`.
type repeat struct {
	part part
	mark byte
}

// row is parts joined one behind the other.
func row(l ...part) part {
	if len(l) == 1 {
		return l[0]
	}
	return &sequence{l}
}

// either is parts joined as branches.
func either(l ...part) part {
	switch len(l) {
	case 0:
		return signs{}
	case 1:
		return l[0]
	}
	return &choice{l}
}

func (p *sequence) instead(w *walk, then int) []int {
	for i := len(p.parts) - 1; i >= 0; i-- {
		then = w.number(p.parts[i], then)
	}
	return []int{then}
}

func (p *choice) instead(w *walk, then int) []int {
	out := make([]int, len(p.parts))
	for i, q := range p.parts {
		out[i] = w.number(q, then)
	}
	return out
}

func (p *repeat) instead(w *walk, then int) []int {
	switch p.mark {
	case '?':
		return []int{then, w.number(p.part, then)}
	case '+':
		more := w.number(&repeat{p.part, '*'}, then)
		return []int{w.number(p.part, more)}
	}
	again := w.number(p, then)
	return []int{then, w.number(p.part, again)}
}

func (p *sequence) print(out *strings.Builder) {
	for _, q := range p.parts {
		hold(q, inSequence, out)
	}
}

func (p *choice) print(out *strings.Builder) {
	for i, q := range p.parts {
		if i > 0 {
			out.WriteByte('|')
		}
		q.print(out)
	}
}

func (p *repeat) print(out *strings.Builder) {
	hold(p.part, inRepeat, out)
	out.WriteByte(p.mark)
}

// How firmly a part must hold together where it stands.
const (
	inChoice = iota
	inSequence
	inRepeat
)

// hold prints a part, in parentheses if its text would not hold together firmly enough.
func hold(p part, firm int, out *strings.Builder) {
	if holds(p) >= firm {
		p.print(out)
		return
	}
	out.WriteByte('(')
	p.print(out)
	out.WriteByte(')')
}

// holds is how firmly a part's text holds together.
func holds(p part) int {
	switch p.(type) {
	case *choice:
		return inChoice
	case *sequence:
		return inSequence
	}
	return inRepeat
}
