package tree

import (
	"fmt"
	"maps"
	"math"
	"math/rand"
	"slices"
	"strings"
	"testing"

	"matricula/api"
	"matricula/disk"
	"matricula/kv"
	"matricula/record"
	"matricula/ticket"
)

// named is the name of a kind with a draw.
func named(kind int, draw uint64) string {
	s, _ := ticket.Name(kind, draw)
	return s
}

// born is one of a kind that came of parent, and has nothing else.
func born(kind int, draw uint64, parent string) api.Record {
	return api.Record{Kind: kind, Name: named(kind, draw), Parent: parent}
}

// The campus: two sessions, of which the first one has two STs; a form; and what came of the ST that was used.
var (
	tgt    = born(api.TGT, 1, "")
	st     = born(api.ST, 2, tgt.Name)
	lt     = born(api.LT, 3, "")
	pgt    = born(api.PGT, 4, st.Name)
	st2    = born(api.ST, 5, tgt.Name)
	tgt2   = born(api.TGT, 6, "")
	pt     = born(api.PT, 7, pgt.Name)
	iou    = born(api.IOU, 8, pgt.Name)
	pgt2   = born(api.PGT, 9, pt.Name)
	st3    = born(api.ST, 10, tgt2.Name)
	pt2    = born(api.PT, 11, pgt.Name)
	absent = []string{"", "x", "TGT", "TGT-", named(api.TGT, 99), named(api.ST, 1), tgt.Name[1:], tgt.Name[:19], tgt.Name + "0", " " + tgt.Name, strings.ToLower(tgt.Name)}
)

func campus() []api.Record {
	return []api.Record{tgt, st, lt, pgt, st2, tgt2, pt, iou, pgt2, st3, pt2}
}

// grown is a tree to which records were added.
func grown(t *testing.T, room int, l ...api.Record) *Tree {
	t.Helper()
	x := New(room)
	for _, r := range l {
		if e := x.Add(r); e != api.OK {
			t.Fatalf("Add(%v) = %v", r, e)
		}
	}
	return x
}

func names(l ...api.Record) []string {
	var out []string
	for _, r := range l {
		out = append(out, r.Name)
	}
	return out
}

// model is what a tree is to have, kept by hand.
type model struct {
	room int
	l    []api.Record
}

func (m *model) at(name string) int {
	for i := range m.l {
		if m.l[i].Name == name {
			return i
		}
	}
	return -1
}

// line are the places of all on the way from one without a Parent to the one at i.
func (m *model) line(i int) []int {
	line := []int{i}
	for m.l[i].Parent != "" {
		i = m.at(m.l[i].Parent)
		line = append([]int{i}, line...)
	}
	return line
}

func (m *model) kids(name string) []string {
	var out []string
	for _, r := range m.l {
		if name != "" && r.Parent == name {
			out = append(out, r.Name)
		}
	}
	return out
}

// below are those whose line begins with the line of name: by rising lines, which is the order of the document.
func (m *model) below(name string) []string {
	at := m.at(name)
	if at < 0 {
		return nil
	}
	head := m.line(at)
	var lines [][]int
	for i := range m.l {
		if line := m.line(i); len(line) >= len(head) && slices.Equal(line[:len(head)], head) {
			lines = append(lines, line)
		}
	}
	slices.SortFunc(lines, slices.Compare)
	var out []string
	for _, line := range lines {
		out = append(out, m.l[line[len(line)-1]].Name)
	}
	return out
}

func (m *model) path(name string) []string {
	at := m.at(name)
	if at < 0 {
		return nil
	}
	var out []string
	for _, i := range m.line(at) {
		out = append([]string{m.l[i].Name}, out...)
	}
	return out
}

func (m *model) add(r api.Record) api.Errno {
	if !record.Right(r) {
		return api.ErrArg
	}
	if m.at(r.Name) >= 0 {
		return api.ErrTwice
	}
	if r.Parent != "" && m.at(r.Parent) < 0 {
		return api.ErrNone
	}
	if len(m.l) == m.room {
		return api.ErrFull
	}
	m.l = append(slices.Clone(m.l), r)
	return api.OK
}

func (m *model) put(r api.Record) api.Errno {
	if !record.Right(r) {
		return api.ErrArg
	}
	at := m.at(r.Name)
	if at < 0 {
		return api.ErrNone
	}
	if m.l[at].Parent != r.Parent {
		return api.ErrKind
	}
	m.l = slices.Clone(m.l)
	m.l[at] = r
	return api.OK
}

func (m *model) drop(name string) []string {
	gone := m.below(name)
	var kept []api.Record
	for _, r := range m.l {
		if !slices.Contains(gone, r.Name) {
			kept = append(kept, r)
		}
	}
	m.l = kept
	return gone
}

func (m *model) copy() *model { return &model{m.room, slices.Clone(m.l)} }

// free is how many more records go into a tree, as a copy of it tells.
func free(x *Tree) int {
	c := x.Copy()
	for n := 0; ; n++ {
		if c.Add(born(api.LT, uint64(1)<<63+uint64(n), "")) != api.OK {
			return n
		}
	}
}

// checkTree holds all that a tree tells against what it is to have; and it tells the same again.
func checkTree(t *testing.T, x *Tree, m *model) {
	t.Helper()
	if got := x.All(); !slices.Equal(got, m.l) {
		t.Fatalf("All() = %v, want %v", got, m.l)
	}
	if got, want := free(x), m.room-len(m.l); got != want {
		t.Fatalf("there is room for %d more, want %d", got, want)
	}
	for _, name := range slices.Concat(names(m.l...), names(campus()...), absent) {
		want := api.Record{}
		at := m.at(name)
		if at >= 0 {
			want = m.l[at]
		}
		if got, ok := x.Get(name); got != want || ok != (at >= 0) {
			t.Fatalf("Get(%q) = %v, %v, want %v", name, got, ok, want)
		}
		if got, want := x.Kids(name), m.kids(name); !slices.Equal(got, want) {
			t.Fatalf("Kids(%q) = %q, want %q", name, got, want)
		}
		if got, want := x.Below(name), m.below(name); !slices.Equal(got, want) {
			t.Fatalf("Below(%q) = %q, want %q", name, got, want)
		}
		if got, want := x.Path(name), m.path(name); !slices.Equal(got, want) {
			t.Fatalf("Path(%q) = %q, want %q", name, got, want)
		}
	}
	if got := x.All(); !slices.Equal(got, m.l) {
		t.Fatalf("All() = %v behind what was asked, want %v", got, m.l)
	}
}

// P14.1

func TestRoomIsHeldWithinBounds(t *testing.T) {
	for room, want := range map[int]int{math.MinInt: 0, -1: 0, 0: 0, 1: 1, 2: 2, 63: 63, 64: 64, 65: 64, 1000: 64, 1<<32 + 1: 64, math.MaxInt: 64} {
		x := New(room)
		checkTree(t, x, &model{room: want})
		for i := range want {
			if e := x.Add(born(api.LT, uint64(i), "")); e != api.OK {
				t.Fatalf("New(%d): Add = %v behind %d", room, e, i)
			}
		}
		if e := x.Add(born(api.LT, 100, "")); e != api.ErrFull || len(x.All()) != want {
			t.Errorf("New(%d): Add = %v behind %d", room, e, want)
		}
	}
}

func TestAddLaysBehindAllOthers(t *testing.T) {
	x, m := New(20), &model{room: 20}
	for _, r := range campus() {
		if e := x.Add(r); e != api.OK {
			t.Fatalf("Add(%v) = %v", r, e)
		}
		m.l = append(m.l, r)
		checkTree(t, x, m)
	}
	// By no order of names, kinds or draws.
	late := born(api.LT, 0, "")
	if e := x.Add(late); e != api.OK {
		t.Error(e)
	}
	m.l = append(m.l, late)
	checkTree(t, x, m)
}

// impossible are records that can't be: of names that are there, and of others.
func impossible() []api.Record {
	changed := func(r api.Record, change func(r *api.Record)) api.Record {
		change(&r)
		return r
	}
	var l []api.Record
	for _, r := range []api.Record{st, born(api.ST, 77, tgt.Name), born(api.PT, 78, named(api.PGT, 99)), lt} {
		l = append(l,
			changed(r, func(r *api.Record) { r.Kind = 0 }),
			changed(r, func(r *api.Record) { r.Kind = api.TGT }),
			changed(r, func(r *api.Record) { r.Name = "" }),
			changed(r, func(r *api.Record) { r.Name += "0" }),
			changed(r, func(r *api.Record) { r.Parent = "x" }),
			changed(r, func(r *api.Record) { r.Parent = r.Name }),
			changed(r, func(r *api.Record) { r.Parent = lt.Name }),
			changed(r, func(r *api.Record) { r.User = strings.Repeat("u", 33) }),
			changed(r, func(r *api.Record) { r.Service = strings.Repeat("s", 101) }),
			changed(r, func(r *api.Record) { r.Url = strings.Repeat("s", 101) }),
			changed(r, func(r *api.Record) { r.Made = 1 }),
			changed(r, func(r *api.Record) { r.Made = -1 }),
			changed(r, func(r *api.Record) { r.Used = 1<<40 + 1 }),
			changed(r, func(r *api.Record) { r.Uses = 256 }),
			changed(r, func(r *api.Record) { r.Uses = -1 }))
	}
	return append(l, api.Record{}, born(api.ST, 79, ""), born(api.TGT, 80, tgt.Name))
}

func TestWhatCanNotBeIsNeitherAddedNorPut(t *testing.T) {
	for _, room := range []int{11, 20} {
		x, m := grown(t, room, campus()...), &model{room, campus()}
		empty := New(room - 11)
		for _, r := range impossible() {
			for _, e := range []api.Errno{x.Add(r), x.Put(r), empty.Add(r), empty.Put(r)} {
				if e != api.ErrArg {
					t.Errorf("%v: %v", r, e)
				}
			}
		}
		checkTree(t, x, m)
		checkTree(t, empty, &model{room: room - 11})
	}
}

func TestErrorsOfAddInTheirOrder(t *testing.T) {
	full, wide := grown(t, 11, campus()...), grown(t, 12, campus()...)
	other := st
	other.Parent, other.User, other.Uses = named(api.TGT, 99), "v", 3
	gone := named(api.PGT, 99)
	for _, y := range []struct {
		x    *Tree
		r    api.Record
		want api.Errno
	}{
		{full, st, api.ErrTwice}, {wide, st, api.ErrTwice},
		{full, other, api.ErrTwice}, {wide, other, api.ErrTwice},
		{full, born(api.PT, 50, gone), api.ErrNone}, {wide, born(api.PT, 50, gone), api.ErrNone},
		{wide, born(api.IOU, 50, gone), api.ErrNone}, {wide, born(api.ST, 50, named(api.TGT, 99)), api.ErrNone},
		{wide, born(api.PGT, 50, named(api.ST, 1)), api.ErrNone}, {wide, born(api.PGT, 50, named(api.PT, 2)), api.ErrNone},
		{full, born(api.PT, 50, pgt.Name), api.ErrFull}, {full, born(api.TGT, 50, ""), api.ErrFull}, {full, born(api.LT, 50, ""), api.ErrFull},
		{New(0), tgt, api.ErrFull}, {New(-3), lt, api.ErrFull}, {New(0), st, api.ErrNone},
	} {
		for range 2 {
			if e := y.x.Add(y.r); e != y.want {
				t.Errorf("Add(%v) = %v, want %v", y.r, e, y.want)
			}
		}
	}
	checkTree(t, full, &model{11, campus()})
	checkTree(t, wide, &model{12, campus()})
	// Names count by kind and draw.
	if e := wide.Add(born(api.ST, 1, tgt.Name)); e != api.OK {
		t.Error(e)
	}
}

func TestPutLaysInTheOnesPlace(t *testing.T) {
	for i, r := range campus() {
		for _, change := range []func(r *api.Record){
			func(r *api.Record) { r.User = "v" },
			func(r *api.Record) { r.Service = "http://a/y" },
			func(r *api.Record) { r.Url = "https://a/cb" },
			func(r *api.Record) { r.Used = 9 },
			func(r *api.Record) { r.Made, r.Used = 9, 1<<40 },
			func(r *api.Record) { r.Uses = 255 },
			func(r *api.Record) { r.Fresh = true },
			func(r *api.Record) {},
		} {
			// A tree that is full has room for what is put.
			x, m := grown(t, 11, campus()...), &model{11, campus()}
			c := r
			change(&c)
			if e := x.Put(c); e != api.OK {
				t.Fatalf("Put(%v) = %v", c, e)
			}
			m.l[i] = c
			checkTree(t, x, m)
			if e := x.Put(r); e != api.OK {
				t.Fatalf("Put(%v) = %v", r, e)
			}
			checkTree(t, x, &model{11, campus()})
		}
	}
}

func TestErrorsOfPut(t *testing.T) {
	x, m := grown(t, 12, campus()...), &model{12, campus()}
	with := func(r api.Record, parent string) api.Record {
		r.Parent, r.User = parent, "v"
		return r
	}
	for _, y := range []struct {
		r    api.Record
		want api.Errno
	}{
		{born(api.ST, 50, tgt.Name), api.ErrNone}, {born(api.TGT, 50, ""), api.ErrNone}, {born(api.LT, 1, ""), api.ErrNone}, {born(api.ST, 50, named(api.TGT, 99)), api.ErrNone},
		{with(st, tgt2.Name), api.ErrKind}, {with(st, named(api.TGT, 99)), api.ErrKind},
		{with(pgt, st2.Name), api.ErrKind}, {with(pgt, pt.Name), api.ErrKind}, {with(pgt2, st.Name), api.ErrKind},
		{with(pt, pgt2.Name), api.ErrKind}, {with(iou, pgt2.Name), api.ErrKind},
		{with(tgt, tgt2.Name), api.ErrArg}, {with(st, ""), api.ErrArg},
	} {
		if e := x.Put(y.r); e != y.want {
			t.Errorf("Put(%v) = %v, want %v", y.r, e, y.want)
		}
	}
	if e := New(5).Put(tgt); e != api.ErrNone {
		t.Error(e)
	}
	checkTree(t, x, m)
}

// P14.2

func TestWhatIsToldOfTheCampus(t *testing.T) {
	x := grown(t, 20, campus()...)
	for _, y := range []struct {
		name              string
		kids, below, path []string
	}{
		{tgt.Name, names(st, st2), names(tgt, st, pgt, pt, pgt2, iou, pt2, st2), names(tgt)},
		{st.Name, names(pgt), names(st, pgt, pt, pgt2, iou, pt2), names(st, tgt)},
		{pgt.Name, names(pt, iou, pt2), names(pgt, pt, pgt2, iou, pt2), names(pgt, st, tgt)},
		{pt.Name, names(pgt2), names(pt, pgt2), names(pt, pgt, st, tgt)},
		{pgt2.Name, nil, names(pgt2), names(pgt2, pt, pgt, st, tgt)},
		{iou.Name, nil, names(iou), names(iou, pgt, st, tgt)},
		{lt.Name, nil, names(lt), names(lt)},
		{tgt2.Name, names(st3), names(tgt2, st3), names(tgt2)},
		{st3.Name, nil, names(st3), names(st3, tgt2)},
		{"", nil, nil, nil}, {"x", nil, nil, nil}, {named(api.TGT, 99), nil, nil, nil},
	} {
		kids, below, path := x.Kids(y.name), x.Below(y.name), x.Path(y.name)
		if !slices.Equal(kids, y.kids) || !slices.Equal(below, y.below) || !slices.Equal(path, y.path) {
			t.Errorf("%s: Kids %q, Below %q, Path %q", y.name, kids, below, path)
		}
	}
	checkTree(t, x, &model{20, campus()})
}

func TestLongestPath(t *testing.T) {
	l := []api.Record{tgt, born(api.ST, 0, tgt.Name)}
	for i := uint64(1); len(l) < 64; i++ {
		kind := api.PGT
		if len(l)%2 == 1 {
			kind = api.PT
		}
		l = append(l, born(kind, i, l[len(l)-1].Name))
	}
	x := grown(t, 64, l...)
	checkTree(t, x, &model{64, l})
	if got := x.Below(tgt.Name); !slices.Equal(got, names(l...)) {
		t.Errorf("%q", got)
	}
	kept := slices.Clone(l)
	slices.Reverse(l)
	if got := x.Path(l[0].Name); !slices.Equal(got, names(l...)) {
		t.Errorf("%q", got)
	}
	// From the youngest on, each round of Load finds one.
	checkLoad(t, 64, pairs(l...), kept, true)
}

// P14.3

func TestExamplesOfDrop(t *testing.T) {
	l := []api.Record{tgt, st, st2, pgt}
	x := grown(t, 4, l...)
	y := x.Copy()
	if got := x.Drop(tgt.Name); !slices.Equal(got, names(tgt, st, pgt, st2)) {
		t.Errorf("%q", got)
	}
	checkTree(t, x, &model{room: 4})
	if got := y.Drop(st.Name); !slices.Equal(got, names(st, pgt)) {
		t.Errorf("%q", got)
	}
	checkTree(t, y, &model{4, []api.Record{tgt, st2}})
}

func TestDropOfEach(t *testing.T) {
	for _, r := range campus() {
		x, m := grown(t, 12, campus()...), &model{12, campus()}
		want := m.drop(r.Name)
		if got := x.Drop(r.Name); !slices.Equal(got, want) || got[0] != r.Name {
			t.Errorf("Drop(%s) = %q, want %q", r.Name, got, want)
		}
		checkTree(t, x, m)
		// It is gone: there is room again, and what comes lies behind all others.
		if got := x.Drop(r.Name); len(got) != 0 {
			t.Errorf("%q", got)
		}
		if r.Parent == "" {
			if e := x.Add(r); e != api.OK {
				t.Error(e)
			}
			m.l = append(m.l, r)
		}
		checkTree(t, x, m)
	}
}

func TestDropOfNone(t *testing.T) {
	x := grown(t, 12, campus()...)
	for _, name := range absent {
		if got := x.Drop(name); len(got) != 0 {
			t.Errorf("Drop(%q) = %q", name, got)
		}
		if got := New(3).Drop(name); len(got) != 0 {
			t.Errorf("Drop(%q) = %q", name, got)
		}
	}
	checkTree(t, x, &model{12, campus()})
}

func TestCopyGoesOnByItself(t *testing.T) {
	for _, room := range []int{0, 11, 12, 64} {
		l := campus()[:min(room, 11)]
		x, m := grown(t, room, l...), &model{room, l}
		c, n := x.Copy(), m.copy()
		checkTree(t, c, n)
		changed := st
		changed.Uses = 9
		for _, y := range []struct {
			x *Tree
			m *model
		}{{c, n}, {x, m}} {
			for _, r := range []api.Record{changed, born(api.LT, 40, "")} {
				if got, want := y.x.Put(r), y.m.put(r); got != want {
					t.Errorf("Put = %v, want %v", got, want)
				}
				if got, want := y.x.Add(r), y.m.add(r); got != want {
					t.Errorf("Add = %v, want %v", got, want)
				}
				checkTree(t, x, m)
				checkTree(t, c, n)
			}
			y.x.Drop(lt.Name)
			y.m.drop(lt.Name)
			checkTree(t, x, m)
			checkTree(t, c, n)
			changed.Uses++
		}
		// Both grow: what one lays behind is not laid over by the other.
		c, n = x.Copy(), m.copy()
		for i := range uint64(3) {
			for _, y := range []struct {
				x *Tree
				m *model
			}{{x, m}, {c, n}} {
				r := born(api.LT, 50+i, "")
				r.Uses = len(y.m.l)
				if y.x == c {
					r.Name = named(api.LT, 60+i)
				}
				if got, want := y.x.Add(r), y.m.add(r); got != want {
					t.Errorf("Add = %v, want %v", got, want)
				}
			}
			checkTree(t, x, m)
			checkTree(t, c, n)
		}
	}
}

// P14.4

// documentedDiff goes through all names that either has, in their order.
func documentedDiff(a, b []api.Record) []api.Change {
	was, now := map[string]api.Record{}, map[string]api.Record{}
	all := map[string]int{}
	for _, r := range a {
		was[r.Name] = r
		all[r.Name]++
	}
	for _, r := range b {
		now[r.Name] = r
		all[r.Name]++
	}
	var l []api.Change
	for _, name := range slices.Sorted(maps.Keys(all)) {
		r, ok := now[name]
		if !ok {
			l = append(l, api.Change{Key: name, Gone: true})
		} else if old, had := was[name]; !had || old != r {
			s, _ := record.Encode(r)
			l = append(l, api.Change{Key: name, Value: s})
		}
	}
	return l
}

func checkDiff(t *testing.T, a, b *Tree) {
	t.Helper()
	was, now := a.All(), b.All()
	want := documentedDiff(was, now)
	for range 2 {
		if got := Diff(a, b); !slices.Equal(got, want) {
			t.Fatalf("Diff(%v, %v) = %v, want %v", was, now, got, want)
		}
	}
	if !slices.Equal(a.All(), was) || !slices.Equal(b.All(), now) {
		t.Fatal("Diff changed a tree")
	}
}

func TestDiffByRisingNames(t *testing.T) {
	x := grown(t, 20, campus()...)
	got := Diff(New(0), x)
	want := names(lt, pgt, pgt2, iou, pt, pt2, st, st2, st3, tgt, tgt2)
	if len(got) != len(want) {
		t.Fatal(got)
	}
	for i, c := range got {
		r, _ := x.Get(want[i])
		if s, _ := record.Encode(r); c != (api.Change{Key: want[i], Value: s}) {
			t.Errorf("%d: %v, want %s", i, c, want[i])
		}
	}
	for i, c := range Diff(x, New(0)) {
		if c != (api.Change{Key: want[i], Gone: true}) {
			t.Errorf("%d: %v, want %s gone", i, c, want[i])
		}
	}
	// Where all lie in another order nothing is to be changed.
	again := grown(t, 11, lt, tgt2, st3, tgt, st2, st, pgt, pt2, iou, pt, pgt2)
	for _, y := range [][2]*Tree{{x, x}, {x, again}, {again, x}, {x, x.Copy()}, {New(0), New(9)}} {
		if got := Diff(y[0], y[1]); len(got) != 0 {
			t.Error(got)
		}
	}
}

func TestDiffOfEachField(t *testing.T) {
	first := api.Record{Kind: api.PT, Name: pt.Name, Parent: pgt.Name, User: "u", Service: "http://a/x", Url: "https://a/cb", Made: 5, Used: 6, Uses: 7, Fresh: true}
	line := []api.Record{tgt, st, st2, pgt, born(api.PGT, 70, st2.Name)}
	a := grown(t, 9, append(line, first)...)
	for i, change := range []func(r *api.Record){
		func(r *api.Record) { r.Parent = named(api.PGT, 70) },
		func(r *api.Record) { r.User = "v" },
		func(r *api.Record) { r.Service = "http://a/y" },
		func(r *api.Record) { r.Url = "" },
		func(r *api.Record) { r.Made = 4 },
		func(r *api.Record) { r.Used = 7 },
		func(r *api.Record) { r.Uses = 8 },
		func(r *api.Record) { r.Fresh = false },
	} {
		r := first
		change(&r)
		b := grown(t, 9, append(line, r)...)
		s, _ := record.Encode(r)
		if got := Diff(a, b); len(got) != 1 || got[0] != (api.Change{Key: r.Name, Value: s}) {
			t.Errorf("%d: %v", i, got)
		}
		checkDiff(t, a, b)
		checkDiff(t, b, a)
	}
}

func TestDiffOfAllThree(t *testing.T) {
	a := grown(t, 20, campus()...)
	b := a.Copy()
	b.Drop(pgt.Name)
	changed := tgt
	changed.Used = 12
	b.Put(changed)
	b.Put(st2)
	b.Add(born(api.PGT, 5, st2.Name))
	want := []string{named(api.PGT, 4), named(api.PGT, 5), pgt2.Name, iou.Name, pt.Name, pt2.Name, tgt.Name}
	for i, c := range Diff(a, b) {
		if i >= len(want) || c.Key != want[i] || c.Gone != (i != 1 && i != 6) {
			t.Errorf("%d: %v", i, c)
		}
	}
	checkDiff(t, a, b)
	checkDiff(t, b, a)
}

func pairs(l ...api.Record) []api.Pair {
	var out []api.Pair
	for _, r := range l {
		s, _ := record.Encode(r)
		out = append(out, api.Pair{Name: r.Name, Value: s})
	}
	return out
}

// documentedLoad goes round and round until nothing more can lie behind the others.
func documentedLoad(room int, l []api.Pair) ([]api.Record, bool) {
	var out []api.Record
	there := map[string]bool{"": true}
	for range len(l) + 1 {
		for _, p := range l {
			r, e := record.Decode(p.Name, p.Value)
			if e != api.OK {
				return nil, false
			}
			if !there[p.Name] && there[r.Parent] {
				out = append(out, r)
				there[p.Name] = true
			}
		}
	}
	// Of two keys that are the same one at most lies there, and so it is with the circles.
	if len(out) != len(l) || len(l) > min(max(room, 0), 64) {
		return nil, false
	}
	return out, true
}

func checkLoad(t *testing.T, room int, l []api.Pair, want []api.Record, ok bool) {
	t.Helper()
	was := slices.Clone(l)
	for range 2 {
		x, e := Load(room, l)
		switch {
		case !ok && (x != nil || e != api.ErrKind):
			t.Fatalf("Load(%d, %q) = %v, %v, want none, ErrKind", room, l, x, e)
		case ok && (x == nil || e != api.OK):
			t.Fatalf("Load(%d, %q) = %v, %v, want %v", room, l, x, e, want)
		case ok:
			checkTree(t, x, &model{min(max(room, 0), 64), want})
		}
	}
	if !slices.Equal(l, was) {
		t.Fatal("Load changed what was handed in")
	}
}

func TestLoadHasParentsFirst(t *testing.T) {
	for i, y := range [][2][]api.Record{
		{nil, nil},
		{{tgt}, {tgt}},
		{campus(), campus()},
		{{st, tgt}, {tgt, st}},
		// Within a round what was laid there ahead is there already.
		{{st, tgt, st2}, {tgt, st2, st}},
		{{pgt, st, tgt, st2, lt}, {tgt, st2, lt, st, pgt}},
		{{pgt2, pt, pgt, st, tgt}, {tgt, st, pgt, pt, pgt2}},
		{{pt, pgt2, iou, st, pgt, pt2, tgt, lt}, {tgt, lt, st, pgt, pt2, pt, pgt2, iou}},
		{{lt, pgt, pgt2, iou, pt, pt2, st, st2, st3, tgt, tgt2}, {lt, tgt, tgt2, st, st2, st3, pgt, iou, pt, pt2, pgt2}},
	} {
		for _, room := range []int{len(y[0]), len(y[0]) + 1, 64, 65, math.MaxInt} {
			checkLoad(t, room, pairs(y[0]...), y[1], true)
		}
		if got, ok := documentedLoad(64, pairs(y[0]...)); !ok || !slices.Equal(got, y[1]) {
			t.Errorf("%d: %v", i, got)
		}
	}
}

func TestLoadKeepsAllThatIsKnown(t *testing.T) {
	for i, r := range campus() {
		for _, full := range []bool{false, true} {
			r.User, r.Service, r.Url, r.Made, r.Used, r.Uses, r.Fresh = "u", "http://a/x", "https://a/cb", 5, 6, 7, !full
			if full {
				r.User, r.Service, r.Url = strings.Repeat("\xff", 32), strings.Repeat("\x00", 100), strings.Repeat("c", 100)
				r.Made, r.Used, r.Uses = 1<<40, 1<<40, 255
			}
			l := campus()
			l[i] = r
			checkLoad(t, 11, pairs(l...), l, true)
			x := grown(t, 11, l...)
			checkTree(t, x, &model{11, l})
			checkDiff(t, grown(t, 11, campus()...), x)
		}
	}
}

func TestLoadOfValuesThatAreNone(t *testing.T) {
	good := pairs(campus()...)
	for i, p := range good {
		for _, bad := range []api.Pair{
			{Name: p.Name}, {Name: "", Value: p.Value}, {Name: "x", Value: p.Value}, {Name: p.Name + "0", Value: p.Value},
			{Name: p.Name, Value: p.Value + "\x00"}, {Name: p.Name, Value: p.Value[:len(p.Value)-1]}, {Name: p.Name, Value: "\x07" + p.Value[1:]},
			{Name: p.Value, Value: p.Name}, {Name: named(api.TGT+api.LT-campus()[i].Kind, 90), Value: p.Value}, {},
		} {
			l := slices.Clone(good)
			l[i] = bad
			checkLoad(t, 64, l, nil, false)
			checkLoad(t, 64, append(slices.Clone(good), bad), nil, false)
			checkLoad(t, 64, []api.Pair{bad}, nil, false)
		}
	}
}

func TestLoadOfKeysThatAreTheSame(t *testing.T) {
	for _, r := range campus() {
		other := r
		other.User = "v"
		if r.Kind == api.ST {
			other.Parent = tgt2.Name
		}
		for _, double := range []api.Record{r, other} {
			checkLoad(t, 64, pairs(append(campus(), double)...), nil, false)
			checkLoad(t, 64, pairs(append([]api.Record{double}, campus()...)...), nil, false)
		}
	}
}

func TestLoadOfParentsThatAreNotThere(t *testing.T) {
	for i, r := range campus() {
		l := slices.Delete(campus(), i, i+1)
		if slices.Contains([]string{lt.Name, iou.Name, st2.Name, st3.Name, pt2.Name, pgt2.Name}, r.Name) {
			checkLoad(t, 10, pairs(l...), l, true)
			continue
		}
		checkLoad(t, 64, pairs(l...), nil, false)
	}
	checkLoad(t, 64, pairs(st), nil, false)
}

func TestLoadWithoutRoom(t *testing.T) {
	for _, room := range []int{math.MinInt, -1, 0, 1, 10} {
		checkLoad(t, room, pairs(campus()...), nil, false)
	}
	checkLoad(t, 0, pairs(tgt), nil, false)
	checkLoad(t, -5, nil, nil, true)
	checkLoad(t, 0, []api.Pair{}, nil, true)
	var l []api.Record
	for i := range 65 {
		l = append(l, born(api.TGT, uint64(i), ""))
	}
	checkLoad(t, 64, pairs(l[:64]...), l[:64], true)
	checkLoad(t, 63, pairs(l[:64]...), nil, false)
	checkLoad(t, 65, pairs(l...), nil, false)
	checkLoad(t, math.MaxInt, pairs(l...), nil, false)
}

// circle are n PGTs, and n PTs, each of the one ahead of it, and the first of the last.
func circle(n int) []api.Record {
	var l []api.Record
	last := named(api.PT, uint64(99+n))
	for i := range n {
		g := born(api.PGT, uint64(100+i), last)
		p := born(api.PT, uint64(100+i), g.Name)
		last = p.Name
		l = append(l, g, p)
	}
	return l
}

func TestLoadOfCircles(t *testing.T) {
	for _, n := range []int{1, 2, 3, 20} {
		l := circle(n)
		checkLoad(t, 64, pairs(l...), nil, false)
		checkLoad(t, 64, pairs(slices.Concat(campus(), l)...), nil, false)
		checkLoad(t, 64, pairs(slices.Concat(l, campus())...), nil, false)
		// What comes of one in a circle is not in it, and never there.
		checkLoad(t, 64, pairs(append(l, born(api.IOU, 1, l[0].Name))...), nil, false)
		// Where it is opened all are there.
		l[0].Parent = st.Name
		checkLoad(t, 64, pairs(slices.Concat([]api.Record{tgt, st}, l)...), slices.Concat([]api.Record{tgt, st}, l), true)
	}
}

func TestDrawnLoads(t *testing.T) {
	r := rand.New(rand.NewSource(1))
	good := 0
	for range 3000 {
		x, _ := drawnTree(r, 1+r.Intn(20))
		l := pairs(x.All()...)
		r.Shuffle(len(l), func(i, j int) { l[i], l[j] = l[j], l[i] })
		room := len(l) + r.Intn(3)
		for range r.Intn(3) {
			switch i := r.Intn(len(l) + 1); {
			case i == len(l) || r.Intn(6) == 0:
				l = append(l, pairs(circle(1+r.Intn(2))...)...)
			case r.Intn(3) == 0:
				l = append(l, l[i])
			case r.Intn(3) == 0:
				l[i].Value = l[r.Intn(len(l))].Value
			case r.Intn(3) == 0:
				room = r.Intn(len(l) + 1)
			default:
				l = slices.Delete(l, i, i+1)
			}
		}
		want, ok := documentedLoad(room, l)
		if ok {
			good++
		}
		checkLoad(t, room, l, want, ok)
	}
	if good < 500 || good > 2500 {
		t.Error(good, "of 3000 are good")
	}
}

func TestWhatIsKeptIsLoaded(t *testing.T) {
	d := disk.New(200)
	s, e := kv.Open(d)
	if e != api.OK {
		t.Fatal(e)
	}
	r := rand.New(rand.NewSource(2))
	kept := New(24)
	for range 300 {
		next := kept.Copy()
		m := &model{24, next.All()}
		for range 1 + r.Intn(4) {
			drawnCall(t, r, next, m)
		}
		if e := s.Commit(Diff(kept, next)); e != api.OK {
			t.Fatal(e)
		}
		kept = next
		if r.Intn(4) > 0 {
			continue
		}
		d.Crash(nil)
		s, e = kv.Open(d)
		if e != api.OK {
			t.Fatal(e)
		}
		x, e := Load(24, s.All(""))
		if e != api.OK {
			t.Fatal(e)
		}
		if a, b := Diff(kept, x), Diff(x, kept); len(a) != 0 || len(b) != 0 || len(x.All()) != len(kept.All()) {
			t.Fatalf("%v and %v", a, b)
		}
		kept = x
	}
}

// P14.5

// drawnRecord is one that can be, mostly, of few draws, so that many names are there, and of a Parent that is there, mostly.
func drawnRecord(r *rand.Rand, m *model) api.Record {
	kind := 1 + r.Intn(6)
	x := born(kind, uint64(r.Intn(12)), "")
	var parents []string
	for _, p := range m.l {
		if record.Comes(kind, p.Kind) {
			parents = append(parents, p.Name)
		}
	}
	if of := [...]int{api.ST: api.TGT, api.PT: api.PGT, api.PGT: api.ST, api.IOU: api.PGT, api.LT: 0}[kind]; of != 0 {
		x.Parent = named(of, uint64(r.Intn(12)))
	}
	if len(parents) > 0 && r.Intn(8) > 0 {
		x.Parent = parents[r.Intn(len(parents))]
	}
	if at := m.at(x.Name); at >= 0 && r.Intn(3) > 0 {
		x.Parent = m.l[at].Parent
	}
	x.User, x.Made, x.Used, x.Uses, x.Fresh = fmt.Sprint("u", r.Intn(3)), r.Intn(3), 3+r.Intn(3), r.Intn(3), r.Intn(2) == 0
	if r.Intn(20) == 0 {
		x.Uses = 256
	}
	return x
}

// drawnCall is a call that may change a tree, held against the model's.
func drawnCall(t *testing.T, r *rand.Rand, x *Tree, m *model) {
	t.Helper()
	y := drawnRecord(r, m)
	switch r.Intn(8) {
	case 0, 1, 2, 3:
		if got, want := x.Add(y), m.add(y); got != want {
			t.Fatalf("Add(%v) = %v, want %v", y, got, want)
		}
	case 4, 5, 6:
		if got, want := x.Put(y), m.put(y); got != want {
			t.Fatalf("Put(%v) = %v, want %v", y, got, want)
		}
	case 7:
		if got, want := x.Drop(y.Name), m.drop(y.Name); !slices.Equal(got, want) {
			t.Fatalf("Drop(%s) = %q, want %q", y.Name, got, want)
		}
	}
}

// drawnTree is one to which so many drawn records were handed.
func drawnTree(r *rand.Rand, n int) (*Tree, *model) {
	x, m := New(20), &model{room: 20}
	for range n {
		y := drawnRecord(r, m)
		x.Add(y)
		m.add(y)
	}
	return x, m
}

// checkParents holds that each Parent is there, and that no path comes back to itself.
func checkParents(t *testing.T, x *Tree) {
	t.Helper()
	for _, r := range x.All() {
		if _, ok := x.Get(r.Parent); !ok && r.Parent != "" {
			t.Fatalf("no %s, of which %s came", r.Parent, r.Name)
		}
		path := x.Path(r.Name)
		if last, _ := x.Get(path[len(path)-1]); last.Parent != "" {
			t.Fatalf("the path %q ends early", path)
		}
		slices.Sort(path)
		if len(slices.Compact(path)) != len(x.Path(r.Name)) {
			t.Fatalf("the path %q comes back to itself", path)
		}
	}
}

func TestDrawnRunsOfCalls(t *testing.T) {
	r := rand.New(rand.NewSource(3))
	for range 150 {
		room := r.Intn(26)
		x, m := New(room), &model{room: room}
		first := x.Copy()
		for i := range 80 {
			if r.Intn(10) == 0 {
				// The one that was copied is changed as well, and left behind.
				old, oldM := x, m
				x, m = x.Copy(), m.copy()
				drawnCall(t, r, old, oldM)
				checkTree(t, old, oldM)
				first = old
			}
			drawnCall(t, r, x, m)
			checkParents(t, x)
			if i%4 == 0 {
				checkTree(t, x, m)
				checkDiff(t, first, x)
				checkDiff(t, x, first)
			}
		}
	}
}

// What Diff tells makes of the records of one tree those of another one.
func TestDiffMakesOneOfTheOther(t *testing.T) {
	r := rand.New(rand.NewSource(4))
	for range 1000 {
		a, _ := drawnTree(r, r.Intn(40))
		b, m := a.Copy(), &model{20, a.All()}
		if r.Intn(3) == 0 {
			b, m = drawnTree(r, r.Intn(40))
		}
		for range r.Intn(20) {
			drawnCall(t, r, b, m)
		}
		values := map[string]string{}
		for _, p := range pairs(a.All()...) {
			values[p.Name] = p.Value
		}
		for _, c := range Diff(a, b) {
			delete(values, c.Key)
			if !c.Gone {
				values[c.Key] = c.Value
			}
		}
		want := map[string]string{}
		for _, p := range pairs(b.All()...) {
			want[p.Name] = p.Value
		}
		if !maps.Equal(values, want) {
			t.Fatalf("%q, want %q", values, want)
		}
	}
}

// R5, R6

func TestAnswersAreMemoryOfTheirOwn(t *testing.T) {
	x, m := grown(t, 20, campus()...), &model{20, campus()}
	before := New(20)
	for range 2 {
		clear(x.All())
		clear(x.Kids(tgt.Name))
		clear(x.Below(tgt.Name))
		clear(x.Path(pt.Name))
		clear(Diff(before, x))
		_ = append(x.All()[:3], api.Record{})
		_ = append(x.All(), api.Record{})
		checkTree(t, x, m)
	}
	l := pairs(campus()...)
	y, _ := Load(20, l)
	clear(l)
	checkTree(t, y, m)
	gone := x.Drop(st.Name)
	m.drop(st.Name)
	clear(gone)
	checkTree(t, x, m)
	all := x.All()
	was := slices.Clone(all)
	x.Drop(tgt.Name)
	x.Add(born(api.LT, 70, ""))
	if !slices.Equal(all, was) {
		t.Error(all)
	}
}
