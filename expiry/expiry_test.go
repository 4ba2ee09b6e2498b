package expiry

import (
	"math"
	"math/rand"
	"slices"
	"testing"

	"matricula/api"
	"matricula/ticket"
	"matricula/tree"
)

// named is the name of a kind with a draw.
func named(kind int, draw uint64) string {
	s, _ := ticket.Name(kind, draw)
	return s
}

// born is one of a kind that came of parent, and was made, and used last, at time 0.
func born(kind int, draw uint64, parent string) api.Record {
	return api.Record{Kind: kind, Name: named(kind, draw), Parent: parent}
}

// at is r, made at one time and used last at another one, so often.
func at(r api.Record, made, used, uses int) api.Record {
	r.Made, r.Used, r.Uses = made, used, uses
	return r
}

// A session with an ST that was used, of which a PGT came; of that a PT that was used, with a PGT of its own, another PT, and an IOU; another ST; a form; and another session.
var (
	tgt  = born(api.TGT, 1, "")
	st   = at(born(api.ST, 2, tgt.Name), 0, 0, 1)
	pgt  = born(api.PGT, 3, st.Name)
	iou  = born(api.IOU, 4, pgt.Name)
	pt   = at(born(api.PT, 5, pgt.Name), 0, 0, 1)
	pgt2 = born(api.PGT, 6, pt.Name)
	pt2  = born(api.PT, 7, pgt.Name)
	st2  = born(api.ST, 8, tgt.Name)
	lt   = born(api.LT, 9, "")
	tgt2 = born(api.TGT, 10, "")
	pt3  = born(api.PT, 11, pgt2.Name)
)

func campus() []api.Record {
	return []api.Record{tgt, st, pgt, iou, pt, pgt2, pt2, st2, lt, tgt2, pt3}
}

// grown is a tree to which records were added.
func grown(t *testing.T, l ...api.Record) *tree.Tree {
	t.Helper()
	x := tree.New(api.MaxTickets)
	for _, r := range l {
		if e := x.Add(r); e != api.OK {
			t.Fatalf("Add(%v) = %v", r, e)
		}
	}
	return x
}

// hard is a policy by which those of some kinds live 10 behind their making, and of which all others live for ever.
func hard(kinds ...int) api.Policy {
	var p api.Policy
	for _, k := range kinds {
		p.Hard[k] = 10
	}
	return p
}

func names(l ...api.Record) []string {
	var out []string
	for _, r := range l {
		out = append(out, r.Name)
	}
	return out
}

// The document's words, written anew: of a list of records, in which what one came of is sought by hand.

func lives(p api.Policy, r api.Record, now int) bool {
	if r.Kind < 1 || r.Kind > 6 {
		return false
	}
	if n := p.Hard[r.Kind]; n != 0 && now-r.Made >= n {
		return false
	}
	if n := p.Idle[r.Kind]; n != 0 && now-r.Used >= n {
		return false
	}
	if n := p.Uses[r.Kind]; n != 0 && r.Uses >= n {
		return false
	}
	return true
}

func sought(l []api.Record, name string) (api.Record, bool) {
	for _, r := range l {
		if r.Name == name {
			return r, true
		}
	}
	return api.Record{}, false
}

func alive(l []api.Record, p api.Policy, name string, now int) bool {
	r, ok := sought(l, name)
	if !ok || !lives(p, r, now) {
		return false
	}
	for r.Parent != "" {
		r, _ = sought(l, r.Parent)
		switch r.Kind {
		case api.TGT, api.PGT:
			if !lives(p, r, now) {
				return false
			}
		}
	}
	return true
}

func isDead(l []api.Record, p api.Policy, r api.Record, now int) bool {
	if lives(p, r, now) {
		return false
	}
	if r.Kind == api.ST || r.Kind == api.PT {
		came := 0
		for _, kid := range l {
			if kid.Parent == r.Name {
				came++
			}
		}
		return r.Uses == 0 && came == 0
	}
	return true
}

func swept(l []api.Record, p api.Policy, now int) []string {
	var out []string
	for _, r := range l {
		under := false
		for up := r; up.Parent != ""; {
			up, _ = sought(l, up.Parent)
			under = under || isDead(l, p, up, now)
		}
		if isDead(l, p, r, now) && !under {
			out = append(out, r.Name)
		}
	}
	return out
}

// check holds all that is told of a tree against the words; the tree is as it was, and the same is told again.
func check(t *testing.T, x *tree.Tree, p api.Policy, now int) {
	t.Helper()
	l := x.All()
	for range 2 {
		for _, name := range append(names(l...), "", "x", named(api.TGT, 999), named(api.ST, 1)) {
			if got, want := Alive(x, p, name, now), alive(l, p, name, now); got != want {
				t.Fatalf("Alive(%v, %v, %q, %d) = %v", l, p, name, now, got)
			}
		}
		if got, want := Sweep(x, p, now), swept(l, p, now); !slices.Equal(got, want) {
			t.Fatalf("Sweep(%v, %v, %d) = %q, want %q", l, p, now, got, want)
		}
		if got := x.All(); !slices.Equal(got, l) {
			t.Fatalf("%v became %v", l, got)
		}
	}
}

// P15.1

func TestRightAsksAllNumbers(t *testing.T) {
	if !Right(api.Policy{}) {
		t.Error("no limits at all")
	}
	for i := range 7 {
		for n, want := range map[int]bool{math.MinInt: false, -1: false, 0: true, 1: true, 255: true, 256: true, 1<<40 - 1: true, 1 << 40: true, 1<<40 + 1: false, math.MaxInt: false} {
			var a, b, c api.Policy
			a.Hard[i], b.Idle[i], c.Uses[i] = n, n, n
			if Right(a) != want || Right(b) != want || Right(c) != want {
				t.Errorf("%d of kind %d: %v, %v, %v, want %v", n, i, Right(a), Right(b), Right(c), want)
			}
		}
	}
	var p api.Policy
	for i := range 7 {
		p.Hard[i], p.Idle[i], p.Uses[i] = api.MaxTime, api.MaxTime, api.MaxTime
	}
	if !Right(p) {
		t.Error("all numbers as great as may be")
	}
}

func TestLiveByTheLimitsOfItsKind(t *testing.T) {
	for k := api.TGT; k <= api.LT; k++ {
		r := at(api.Record{Kind: k}, 5, 20, 3)
		var byHard, byIdle, byUses api.Policy
		byHard.Hard[k], byIdle.Idle[k], byUses.Uses[k] = 10, 10, 3
		for now, want := range map[int]bool{0: true, 5: true, 14: true, 15: false, 16: false, api.MaxTime: false} {
			if got := Live(byHard, r, now); got != want {
				t.Errorf("kind %d, Hard 10, made at 5: %v at %d", k, got, now)
			}
		}
		for now, want := range map[int]bool{0: true, 20: true, 29: true, 30: false, 31: false, api.MaxTime: false} {
			if got := Live(byIdle, r, now); got != want {
				t.Errorf("kind %d, Idle 10, used at 20: %v at %d", k, got, now)
			}
		}
		for uses, want := range map[int]bool{0: true, 2: true, 3: false, 4: false, 255: false} {
			if got := Live(byUses, at(r, 5, 20, uses), 20); got != want {
				t.Errorf("kind %d, Uses 3: %v behind %d", k, got, uses)
			}
		}
		if !Live(api.Policy{}, at(r, 0, 0, 255), api.MaxTime) {
			t.Errorf("kind %d: no limit, and it lives no more", k)
		}
	}
}

func TestLiveAsksForAllLimits(t *testing.T) {
	var p api.Policy
	p.Hard[api.PGT], p.Idle[api.PGT], p.Uses[api.PGT] = 100, 20, 2
	r := at(born(api.PGT, 1, ""), 10, 60, 1)
	if !Live(p, r, 79) {
		t.Error("below all three")
	}
	if Live(p, r, 80) {
		t.Error("idle for too long")
	}
	if Live(p, at(r, 10, 105, 1), 110) {
		t.Error("made too long ago")
	}
	if Live(p, at(r, 10, 60, 2), 61) {
		t.Error("used too often")
	}
}

func TestLiveIsToldOfOneKindAlone(t *testing.T) {
	for k := api.TGT; k <= api.LT; k++ {
		var others api.Policy
		for i := range 7 {
			if i != k {
				others.Hard[i], others.Idle[i], others.Uses[i] = 1, 1, 1
			}
		}
		if !Live(others, at(api.Record{Kind: k}, 0, 0, 9), 99) {
			t.Errorf("kind %d hangs on other kinds' limits", k)
		}
	}
}

func TestLiveAtTheEnds(t *testing.T) {
	var p api.Policy
	p.Hard[api.TGT], p.Idle[api.ST], p.Uses[api.LT] = api.MaxTime, 1, 256
	if !Live(p, tgt, api.MaxTime-1) || Live(p, tgt, api.MaxTime) {
		t.Error("Hard MaxTime")
	}
	if !Live(p, at(st2, api.MaxTime, api.MaxTime, 0), api.MaxTime) || Live(p, at(st2, 0, api.MaxTime-1, 0), api.MaxTime) {
		t.Error("Idle 1")
	}
	if !Live(p, at(lt, 0, 0, 255), 0) {
		t.Error("Uses 256 are never reached")
	}
	if !Live(p, at(st2, 0, api.MaxTime, 0), 0) {
		t.Error("used behind now")
	}
}

func TestLiveIsNoneOfNoKind(t *testing.T) {
	for _, k := range []int{0, -1, 7, 8, 256 + api.TGT, math.MinInt, math.MaxInt} {
		if Live(api.Policy{}, api.Record{Kind: k}, 0) {
			t.Errorf("kind %d lives", k)
		}
	}
}

func TestWhateverTheNumbersCallsEnd(t *testing.T) {
	ends := []int{math.MinInt, -1, 0, 1, api.MaxTime + 1, math.MaxInt}
	x := grown(t, campus()...)
	for _, a := range ends {
		for _, b := range ends {
			var p api.Policy
			for i := range 7 {
				p.Hard[i], p.Idle[i], p.Uses[i] = a, b, a
			}
			for _, now := range ends {
				Live(p, at(api.Record{Kind: api.TGT}, a, b, now), now)
				Live(p, at(api.Record{Kind: b}, now, a, b), now)
				Alive(x, p, pt3.Name, now)
				Sweep(x, p, now)
				Touch(at(tgt, a, b, now), a)
			}
		}
	}
}

// P15.2

func TestAliveOfNone(t *testing.T) {
	x := grown(t, campus()...)
	for _, name := range []string{"", "x", "TGT", tgt.Name[:19], tgt.Name + "0", named(api.TGT, 99), named(api.ST, 1)} {
		if Alive(x, api.Policy{}, name, 0) {
			t.Errorf("%q is alive", name)
		}
	}
	if Alive(tree.New(8), api.Policy{}, tgt.Name, 0) {
		t.Error("alive in a tree without records")
	}
}

func TestAliveByWhatItCameOf(t *testing.T) {
	x := grown(t, campus()...)
	for _, c := range []struct {
		p    api.Policy
		want []string
	}{
		{api.Policy{}, names(campus()...)},
		{hard(api.TGT), names(lt)},
		{hard(api.PGT), names(tgt, st, st2, lt, tgt2)},
		// An ST, a PT that is no more lets live what came of it.
		{hard(api.ST), names(tgt, pgt, iou, pt, pgt2, pt2, lt, tgt2, pt3)},
		{hard(api.PT), names(tgt, st, pgt, iou, pgt2, st2, lt, tgt2)},
		{hard(api.ST, api.PT), names(tgt, pgt, iou, pgt2, lt, tgt2)},
		{hard(api.IOU), names(tgt, st, pgt, pt, pgt2, pt2, st2, lt, tgt2, pt3)},
		{hard(api.LT), names(tgt, st, pgt, iou, pt, pgt2, pt2, st2, tgt2, pt3)},
		{hard(1, 2, 3, 4, 5, 6), nil},
	} {
		var got []string
		for _, r := range campus() {
			if Alive(x, c.p, r.Name, 10) {
				got = append(got, r.Name)
			}
			if !Alive(x, c.p, r.Name, 9) {
				t.Errorf("%v: %q is not alive at 9", c.p, r.Name)
			}
		}
		if !slices.Equal(got, c.want) {
			t.Errorf("%v: alive are %q, want %q", c.p, got, c.want)
		}
		check(t, x, c.p, 10)
	}
}

func TestAliveByEachOnThePath(t *testing.T) {
	// Four PGTs, one above the other: whichever is too old, what came of it is not alive.
	old := grown(t, tgt, st, pgt, pt, pgt2, pt3)
	line := names(tgt, st, pgt, pt, pgt2, pt3)
	for i, name := range line {
		x := tree.New(8)
		for _, r := range old.All() {
			if r.Name != name {
				r.Made, r.Used = 50, 50
			}
			x.Add(r)
		}
		for k, below := range line {
			ends := name == tgt.Name || name == pgt.Name || name == pgt2.Name
			want := k < i || k > i && !ends
			if got := Alive(x, hard(1, 2, 3, 4, 5, 6), below, 55); got != want {
				t.Errorf("%q, where %q is too old: %v", below, name, got)
			}
		}
	}
}

func TestAliveByUses(t *testing.T) {
	var p api.Policy
	p.Uses[api.ST], p.Uses[api.PT] = 1, 1
	x := grown(t, campus()...)
	for _, r := range campus() {
		if got := Alive(x, p, r.Name, 0); got != (r.Name != st.Name && r.Name != pt.Name) {
			t.Errorf("%q: %v", r.Name, got)
		}
	}
}

// P15.3

func TestTouch(t *testing.T) {
	r := api.Record{Kind: api.ST, Name: st.Name, Parent: tgt.Name, User: "u", Service: "s", Url: "x", Made: 5, Used: 20, Uses: 3, Fresh: true}
	for _, c := range []struct{ used, uses, now, wantUsed, wantUses int }{
		{20, 3, 21, 21, 4},
		{20, 3, 20, 20, 4},
		{20, 3, 19, 20, 4},
		{20, 3, 0, 20, 4},
		{5, 0, api.MaxTime, api.MaxTime, 1},
		{5, 253, 6, 6, 254},
		{5, 254, 6, 6, 255},
		{5, 255, 6, 6, 255},
		{5, 256, 6, 6, 255},
		{5, math.MaxInt, 6, 6, 255},
	} {
		got := Touch(at(r, 5, c.used, c.uses), c.now)
		if want := at(r, 5, c.wantUsed, c.wantUses); got != want {
			t.Errorf("Touch(used %d, uses %d, %d) = %v", c.used, c.uses, c.now, got)
		}
	}
	if got := Touch(api.Record{}, 0); got != (api.Record{Uses: 1}) {
		t.Error(got)
	}
}

func TestWhatIsTouchedCanBePut(t *testing.T) {
	x := grown(t, campus()...)
	r, _ := x.Get(tgt.Name)
	for i := range 300 {
		r = Touch(r, i/2)
		if e := x.Put(r); e != api.OK {
			t.Fatal(i, e)
		}
	}
	if got, _ := x.Get(tgt.Name); got.Uses != 255 || got.Used != 149 {
		t.Error(got)
	}
}

func TestTouchPutsIdleOff(t *testing.T) {
	var p api.Policy
	p.Idle[api.TGT] = 10
	if r := Touch(tgt, 9); !Live(p, r, 18) || Live(p, r, 19) {
		t.Error("touched at 9")
	}
	if r := Touch(at(tgt, 0, 9, 0), 5); !Live(p, r, 18) {
		t.Error("touched at a time ahead of its last use")
	}
}

// P15.4

func TestSweepByKinds(t *testing.T) {
	x := grown(t, campus()...)
	for _, c := range []struct {
		p    api.Policy
		want []string
	}{
		{api.Policy{}, nil},
		{hard(api.TGT), names(tgt, tgt2)},
		{hard(api.ST), names(st2)},
		{hard(api.PT), names(pt2, pt3)},
		{hard(api.PGT), names(pgt)},
		{hard(api.IOU), names(iou)},
		{hard(api.LT), names(lt)},
		{hard(api.TGT, api.ST, api.LT), names(tgt, lt, tgt2)},
		{hard(api.PGT, api.PT, api.ST), names(pgt, st2)},
		{hard(api.IOU, api.PT), names(iou, pt2, pt3)},
		{hard(1, 2, 3, 4, 5, 6), names(tgt, lt, tgt2)},
	} {
		if got := Sweep(x, c.p, 10); !slices.Equal(got, c.want) {
			t.Errorf("Sweep(%v) = %q, want %q", c.p, got, c.want)
		}
		if got := Sweep(x, c.p, 9); len(got) != 0 {
			t.Errorf("Sweep(%v) = %q at 9", c.p, got)
		}
		check(t, x, c.p, 10)
	}
	if got := Sweep(tree.New(8), hard(api.TGT), 99); len(got) != 0 {
		t.Error(got)
	}
}

func TestSweepLetsBeWhatWasUsed(t *testing.T) {
	// The example: used once it lives no more, but it stays.
	var p api.Policy
	p.Uses[api.ST], p.Uses[api.PT], p.Hard[api.ST], p.Hard[api.PT] = 1, 1, 10, 10
	used, unused := at(st2, 0, 0, 1), at(st2, 0, 0, 0)
	if Live(p, used, 1) || len(Sweep(grown(t, tgt, used), p, 1)) != 0 || len(Sweep(grown(t, tgt, used), p, 99)) != 0 {
		t.Error("an ST that was used")
	}
	if got := Sweep(grown(t, tgt, unused), p, 10); !slices.Equal(got, names(st2)) {
		t.Error(got)
	}
	if got := Sweep(grown(t, tgt, st, pgt, at(pt2, 0, 0, 255)), p, 99); len(got) != 0 {
		t.Error(got)
	}
	if got := Sweep(grown(t, tgt, st, pgt, pt2), p, 99); !slices.Equal(got, names(pt2)) {
		t.Error(got)
	}
}

func TestSweepLetsBeWhatOthersCameOf(t *testing.T) {
	// No Uses, but a PGT came of it: it is dead only when that is gone.
	st0, pt0 := at(st, 0, 0, 0), at(pt, 0, 0, 0)
	x := grown(t, tgt, st0, pgt, pt0, pgt2)
	p := hard(api.ST, api.PT)
	if got := Sweep(x, p, 10); len(got) != 0 {
		t.Error(got)
	}
	x.Drop(pgt2.Name)
	if got := Sweep(x, p, 10); !slices.Equal(got, names(pt)) {
		t.Error(got)
	}
	x.Drop(pt.Name)
	if got := Sweep(x, p, 10); len(got) != 0 {
		t.Error(got)
	}
	x.Drop(pgt.Name)
	if got := Sweep(x, p, 10); !slices.Equal(got, names(st)) {
		t.Error(got)
	}
}

func TestSweepTellsUsedUpOnesOfOtherKinds(t *testing.T) {
	// Uses, and what came of it, keep STs and PTs alone.
	var p api.Policy
	for k := range p.Uses {
		p.Uses[k] = 1
	}
	x := grown(t, at(tgt, 0, 0, 1), st, at(lt, 0, 0, 1), tgt2)
	if got := Sweep(x, p, 0); !slices.Equal(got, names(tgt, lt)) {
		t.Error(got)
	}
	x = grown(t, tgt, st, at(pgt, 0, 0, 1), at(iou, 0, 0, 1), pt, tgt2)
	if got := Sweep(x, p, 0); !slices.Equal(got, names(pgt)) {
		t.Error(got)
	}
	x = grown(t, tgt, st, pgt, at(iou, 0, 0, 1), pt)
	if got := Sweep(x, p, 0); !slices.Equal(got, names(iou)) {
		t.Error(got)
	}
}

func TestSweepTellsThemAsTheyLie(t *testing.T) {
	// By no order of kinds, names or times; what is dead below one that is dead is not told, however far below.
	x := grown(t, at(born(api.LT, 9, ""), 3, 3, 0), at(born(api.TGT, 8, ""), 2, 2, 0), at(born(api.LT, 1, ""), 1, 1, 0), born(api.TGT, 7, ""), at(born(api.ST, 1, named(api.TGT, 8)), 2, 2, 0), at(born(api.TGT, 2, ""), 90, 90, 0), at(born(api.ST, 3, named(api.TGT, 2)), 4, 4, 0))
	want := []string{named(api.LT, 9), named(api.TGT, 8), named(api.LT, 1), named(api.TGT, 7), named(api.ST, 3)}
	if got := Sweep(x, hard(1, 2, 3, 4, 5, 6), 99); !slices.Equal(got, want) {
		t.Errorf("%q, want %q", got, want)
	}
	x = grown(t, tgt, st, pgt, pt, pgt2, pt3)
	if got := Sweep(x, hard(api.TGT, api.PT), 99); !slices.Equal(got, names(tgt)) {
		t.Error(got)
	}
	// What lies between may live, and need not be dead.
	if got := Sweep(x, hard(api.PGT, api.PT), 99); !slices.Equal(got, names(pgt)) {
		t.Error(got)
	}
}

func TestSweepIsMemoryOfItsOwn(t *testing.T) {
	x := grown(t, campus()...)
	p := hard(api.TGT, api.LT)
	l := Sweep(x, p, 99)
	for i := range l {
		l[i] = "spoilt"
	}
	check(t, x, p, 99)
}

// Drawn runs

// drawn is a tree of drawn records, with some places left.
func drawn(rnd *rand.Rand, t *testing.T) *tree.Tree {
	x := tree.New(api.MaxTickets)
	comes := map[int][]int{api.TGT: {api.ST}, api.ST: {api.PGT}, api.PGT: {api.PT, api.IOU}, api.PT: {api.PGT}}
	for n := range rnd.Intn(40) {
		r := born([]int{api.TGT, api.TGT, api.LT}[rnd.Intn(3)], uint64(n), "")
		if l := x.All(); len(l) > 0 && rnd.Intn(5) > 0 {
			parent := l[rnd.Intn(len(l))]
			if kinds := comes[parent.Kind]; len(kinds) > 0 {
				r = born(kinds[rnd.Intn(len(kinds))], uint64(n), parent.Name)
			}
		}
		made := rnd.Intn(30)
		r = at(r, made, made+rnd.Intn(20), max(0, rnd.Intn(6)-2))
		if e := x.Add(r); e != api.OK {
			t.Fatalf("Add(%v) = %v", r, e)
		}
	}
	return x
}

// drawnPolicy is one of which many limits are none.
func drawnPolicy(rnd *rand.Rand) api.Policy {
	var p api.Policy
	for k := range 7 {
		p.Hard[k], p.Idle[k], p.Uses[k] = max(0, rnd.Intn(80)-30), max(0, rnd.Intn(60)-30), max(0, rnd.Intn(6)-2)
	}
	return p
}

func TestDrawnTrees(t *testing.T) {
	rnd := rand.New(rand.NewSource(15))
	for range 1500 {
		check(t, drawn(rnd, t), drawnPolicy(rnd), rnd.Intn(60))
	}
}

func TestDrawnLives(t *testing.T) {
	rnd := rand.New(rand.NewSource(151))
	some := []int{0, 0, 1, 2, 3, 254, 255, 256, api.MaxTime - 1, api.MaxTime}
	for range 200000 {
		var p api.Policy
		pick := func() int { return some[rnd.Intn(len(some))] }
		for k := range 7 {
			p.Hard[k], p.Idle[k], p.Uses[k] = pick(), pick(), pick()
		}
		r := at(api.Record{Kind: rnd.Intn(9) - 1}, pick(), pick(), pick())
		now := pick()
		if got, want := Live(p, r, now), lives(p, r, now); got != want {
			t.Fatalf("Live(%v, %v, %d) = %v", p, r, now, got)
		}
	}
}

// P15.5

func TestWhatDoesNotLiveByItsTimesLivesNeverAgain(t *testing.T) {
	rnd := rand.New(rand.NewSource(155))
	for range 1000 {
		x, p := drawn(rnd, t), drawnPolicy(rnd)
		lived := map[string]bool{}
		for now := range 120 {
			for _, r := range x.All() {
				is := Live(p, r, now)
				if before, asked := lived[r.Name]; asked && is && !before {
					t.Fatalf("Live(%v, %v, %d), but not ahead of it", p, r, now)
				}
				lived[r.Name] = is
			}
		}
	}
}

func TestSweepingTakesNothingThatIsAlive(t *testing.T) {
	rnd := rand.New(rand.NewSource(156))
	again := 0
	for range 1000 {
		x, p, now := drawn(rnd, t), drawnPolicy(rnd), rnd.Intn(60)
		var living []string
		for _, r := range x.All() {
			if Alive(x, p, r.Name, now) {
				living = append(living, r.Name)
			}
		}
		rounds := 0
		for l := Sweep(x, p, now); len(l) > 0; l = Sweep(x, p, now) {
			for _, name := range l {
				if len(x.Drop(name)) == 0 {
					t.Fatalf("%q was told, and gone before: %q", name, l)
				}
			}
			rounds++
		}
		if rounds > 1 {
			again++
		}
		for _, name := range living {
			if !Alive(x, p, name, now) {
				t.Fatalf("%q was alive, and is no more", name)
			}
		}
		for _, r := range x.All() {
			if isDead(x.All(), p, r, now) {
				t.Fatalf("%v is dead, and stays", r)
			}
		}
	}
	if again == 0 {
		t.Error("nowhere more than one round")
	}
}

// The chapter's examples

func TestExamples(t *testing.T) {
	p := hard(api.ST)
	made := at(st2, 5, 5, 0)
	if !Live(p, made, 14) || Live(p, made, 15) {
		t.Error("Hard of an ST 10, made at 5")
	}
	p = api.Policy{}
	p.Uses[api.ST] = 1
	once := Touch(made, 6)
	if !Live(p, made, 6) || Live(p, once, 6) || len(Sweep(grown(t, tgt, once), p, 6)) != 0 {
		t.Error("Uses of an ST 1")
	}
}
