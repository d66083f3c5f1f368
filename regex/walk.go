package regex

import "strainer/api"

// rest is what may be left to be matched: a part, and then another rest, told by its number.
type rest struct {
	part part
	then int
}

// The numbers of two rests: of the one that is nothing more, and of a whole expression.
const (
	done = iota
	start
)

// walk is what may be left of an expression, found only as far as it is asked for, each rest once. So a part that stands at many places, as in Or(r, r), is gone through again only where something else is left behind it.
type walk struct {
	states  []state
	numbers map[rest]int
	round   int
}

// state is a rest, and what was found of it.
type state struct {
	rest
	asked   bool
	instead []int // once it was asked: the rests that may be left instead of it
	met     int   // the last round in which it was met
}

// begin is a walk from the beginning of an expression on.
func begin(whole part) *walk {
	w := &walk{numbers: map[rest]int{}}
	w.states = []state{{asked: true}} // there is nothing instead of nothing more
	w.number(whole, done)
	return w
}

// number is the number of a rest.
func (w *walk) number(p part, then int) int {
	x := rest{p, then}
	i, is := w.numbers[x]
	if !is {
		i = len(w.states)
		w.numbers[x] = i
		w.states = append(w.states, state{rest: x})
	}
	return i
}

// instead is what may be left instead of a rest, without a sign being passed.
func (w *walk) instead(i int) []int {
	if !w.states[i].asked {
		x := w.states[i].rest
		l := x.part.instead(w, x.then)
		w.states[i].asked, w.states[i].instead = true, l
	}
	return w.states[i].instead
}

// opened is rests, and all that may be left instead of them, each once.
func (w *walk) opened(l []int) []int {
	var out []int
	w.round++
	meet := func(l []int) {
		for _, i := range l {
			if w.states[i].met != w.round {
				w.states[i].met = w.round
				out = append(out, i)
			}
		}
	}
	meet(l)
	for k := 0; k < len(out); k++ {
		meet(w.instead(out[k]))
	}
	return out
}

// passed is what is left of rests when a byte is passed.
func (w *walk) passed(l []int, c byte) []int {
	var out []int
	for _, i := range l {
		if p, is := w.states[i].part.(signs); is && p.has(c) {
			out = append(out, w.states[i].then)
		}
	}
	return out
}

// edges is the edges of a net from a rest on.
func (w *walk) edges(i int) []api.Edge {
	var out []api.Edge
	switch p := w.states[i].part.(type) {
	case signs:
		for _, x := range p.spans() {
			out = append(out, api.Edge{From: i, To: w.states[i].then, Low: x.low, High: x.high})
		}
	default:
		for _, to := range w.instead(i) {
			out = append(out, api.Edge{From: i, To: to, Low: 1}) // above High: by no sign
		}
	}
	return out
}
