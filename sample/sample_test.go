package sample_test

import (
	"reflect"
	"testing"

	"strainer/api"
	"strainer/sample"
)

// nodes is nodes with lists at several depths.
func nodes() []api.Node {
	inner := sample.With(sample.Element("i", sample.Text("x"), sample.Comment("c")), "x", "1")
	return sample.List(sample.With(sample.Element("b", inner, sample.Text("y")), "y", "2", "z", "3"), sample.Holding(sample.Text("t"), inner))
}

// The nodes that are made.
func TestNodes(t *testing.T) {
	want := []api.Node{
		{Kind: 1, Name: "b", Attrs: []api.Attr{{Name: "x", Value: "1"}}, Kids: []api.Node{{Kind: 2, Text: "t"}, {Kind: 3, Text: "c"}}},
		{Kind: 3, Kids: []api.Node{{Kind: 1, Name: "i"}}},
	}
	got := sample.List(sample.With(sample.Element("b", sample.Text("t"), sample.Comment("c")), "x", "1"), sample.Holding(sample.Comment(""), sample.Element("i")))
	if !reflect.DeepEqual(got, want) {
		t.Error(got)
	}
	if got := sample.Whole(got); got != `[1"b"""("x""1")[2"""t"()[]3"""c"()[]]3""""()[1"i"""()[]]]` {
		t.Error(got)
	}
	if got := sample.Whole(sample.Chain(2, sample.Text("x"))); got != `[1"b"""("x""1")[1"b"""("x""1")[2"""x"()[]]]]` {
		t.Error(got)
	}
}

// All texts that Changed yields are unlike s but those that are s with the same byte put in its place, and it ends when it is told to.
func TestChanged(t *testing.T) {
	count, same, less := 0, 0, 0
	for s := range sample.Changed("ab") {
		count++
		if s == "ab" {
			same++
		}
		if s == "a" || s == "b" {
			less++
		}
	}
	if count != 5*256+2 || same != 2 || less != 2 {
		t.Error(count, same, less)
	}
	for stop := 1; stop <= count; stop++ {
		told := 0
		for range sample.Changed("ab") {
			if told++; told == stop {
				break
			}
		}
		if told != stop {
			t.Fatal(told, stop)
		}
	}
}

// Rows yields all rows, each once, and of its own memory, and ends when it is told to.
func TestRows(t *testing.T) {
	want := [][]string{nil, {"a"}, {"a", "a"}, {"a", "b"}, {"b"}, {"b", "a"}, {"b", "b"}}
	var got [][]string
	for l := range sample.Rows(2, "a", "b") {
		got = append(got, l)
	}
	if !reflect.DeepEqual(got, want) {
		t.Error(got)
	}
	for stop := 1; stop <= len(want); stop++ {
		told := 0
		for range sample.Rows(2, "a", "b") {
			if told++; told == stop {
				break
			}
		}
		if told != stop {
			t.Fatal(told, stop)
		}
	}
	for _, most := range []int{0, 3} {
		count := 0
		for l := range sample.Rows(most, 1, 2, 3) {
			if count++; len(l) > most {
				t.Error(l)
			}
		}
		if count != map[int]int{0: 1, 3: 1 + 3 + 9 + 27}[most] {
			t.Error(most, count)
		}
	}
}

// What a call could change in nodes with room to spare is seen: any field, any list, any room.
func TestRoom(t *testing.T) {
	want := sample.Whole(nodes())
	if got := sample.Whole(sample.Roomy(nodes())); got != want {
		t.Error(got)
	}
	for i, change := range []func(l []api.Node){
		func(l []api.Node) { l[0].Name = "u" },
		func(l []api.Node) { l[0].Attrs[1].Value = "" },
		func(l []api.Node) { l[0].Kids[0].Kids[1].Kind = 0 },
		func(l []api.Node) { l[1].Kids = nil },
		func(l []api.Node) { l[:3][2].Text = "" },
		func(l []api.Node) { l[0].Attrs[:3][2].Name = "" },
		func(l []api.Node) { l[0].Kids[0].Kids[:3][2].Kind = 0 },
		func(l []api.Node) { _ = append(l[0].Kids[1].Kids, api.Node{}) },
		func(l []api.Node) { _ = append(l[0].Kids[1].Attrs, api.Attr{}) },
	} {
		l := sample.Roomy(nodes())
		before := sample.Room(l)
		if !reflect.DeepEqual(before, sample.Room(l)) {
			t.Error("changed by nothing")
		}
		change(l)
		if reflect.DeepEqual(before, sample.Room(l)) {
			t.Errorf("change %d is not seen", i)
		}
	}
}

// Spoil changes all, but nothing that lies elsewhere.
func TestSpoil(t *testing.T) {
	l := sample.Roomy(nodes())
	other := sample.Room(l)
	want := sample.Room(other)
	inner := l[0].Kids[0].Attrs[:3]
	sample.Spoil(l)
	if !reflect.DeepEqual(other, want) {
		t.Error("spoilt elsewhere")
	}
	for _, n := range l[:cap(l)] {
		if n.Kind != 77 || n.Name != "spoilt" || n.Text != "spoilt" {
			t.Error(n)
		}
	}
	for _, a := range inner {
		if a.Name != "spoilt" || a.Value != "spoilt" {
			t.Error(a)
		}
	}
}

// Memory in common is seen at every depth.
func TestShared(t *testing.T) {
	l := sample.Roomy(nodes())
	if sample.Shared(l, sample.Roomy(nodes())) || sample.Shared(l) || sample.Shared(nil, nil) {
		t.Error("nothing is shared")
	}
	shared := sample.List(sample.With(sample.Element("a"), "x", ""))[0]
	for i, x := range [][2][]api.Node{
		{l, l},
		{l, l[0].Kids},
		{l, sample.List(sample.Element("b", sample.Element("i", l[0].Kids[0].Kids...)))},
		{l, sample.List(api.Node{Attrs: l[0].Attrs})},
		{l, sample.List(api.Node{Attrs: l[0].Kids[1].Attrs})},
		{l, sample.List(api.Node{Kids: l[0].Kids[1].Kids})},
		{nil, sample.List(shared, shared)},
		{nil, nodes()},
	} {
		if !sample.Shared(x[:]...) {
			t.Errorf("%d is not seen", i)
		}
	}
}
