package arena_test

import (
	"errors"
	"math"
	"reflect"
	"slices"
	"testing"

	"waybill/api"
	"waybill/arena"
)

// ids are numbers around those of a small tree, and the type's bounds.
var ids = []int{math.MinInt, math.MinInt + 1, -1 << 32, -2, -1, 0, 1, 2, 3, 4, 5, 6, 7, 8, 9, 1 << 32, math.MaxInt}

// ups are what the values of the chapter's example, and some more, are beneath: a shape with a leaf, a chain and a fork.
var ups = []int{-1, 0, 1, 0, 1, 2, 3}

func same(t *testing.T, what string, got, want any) {
	t.Helper()
	if !reflect.DeepEqual(got, want) {
		t.Errorf("%s: got %#v, want %#v", what, got, want)
	}
}

// sameList holds no list and one without elements for one.
func sameList(t *testing.T, what string, got []int, want ...int) {
	t.Helper()
	if !slices.Equal(got, want) {
		t.Errorf("%s: got %v, want %v", what, got, want)
	}
}

// wrong asks for the error itself, and for what errors.Is and errors.As tell of it.
func wrong(t *testing.T, what string, err error, kind api.Errno, at int) {
	t.Helper()
	var f *api.Fault
	if !errors.As(err, &f) {
		t.Errorf("%s: got %v, want errno %d at %d", what, err, kind, at)
		return
	}
	if f.Kind != kind || f.At != at || !errors.Is(err, kind) || f.Inner != nil {
		t.Errorf("%s: got errno %d at %d, want %d at %d", what, f.Kind, f.At, kind, at)
	}
}

// build adds the values 100, 101 and so on.
func build(t *testing.T, most int, ups ...int) *arena.Tree[int] {
	t.Helper()
	x := arena.New[int](most)
	for want, up := range ups {
		id, err := x.Add(up, 100+want)
		if id != want || err != nil {
			t.Fatalf("Add at %d: got %d, %v, want %d", up, id, err, want)
		}
	}
	return x
}

// tell tells all that a tree tells of any number.
func tell(x *arena.Tree[int]) []any {
	all := []any{x.Len()}
	for _, id := range ids {
		v, there := x.Value(id)
		up, above := x.Up(id)
		all = append(all, v, there, up, above, x.Deep(id), x.Kids(id), x.Walk(id))
		for _, at := range ids {
			kid, ok := x.Kid(id, at)
			all = append(all, kid, ok)
		}
	}
	return all
}

// The chapter's example.
func TestExample(t *testing.T) {
	x := arena.New[string](9)
	for want, c := range []struct {
		up int
		v  string
	}{{-1, "a"}, {0, "b"}, {1, "c"}, {0, "d"}} {
		id, err := x.Add(c.up, c.v)
		same(t, "Add of "+c.v, id, want)
		same(t, "its error", err, error(nil))
	}
	sameList(t, "Walk", x.Walk(0), 0, 1, 2, 3)
	sameList(t, "Kids", x.Kids(0), 1, 3)
}

// P5.1: a tree without values has none, whatever is asked of it.
func TestNew(t *testing.T) {
	for _, most := range []int{math.MinInt, -1, 0, 1, 9, math.MaxInt} {
		x := arena.New[int](most)
		same(t, "Len", x.Len(), 0)
		for _, id := range ids {
			notThere(t, x, id)
		}
	}
}

// P5.1: the first value is the root, and at -1 alone; afterwards nothing is beneath -1.
func TestAddOfTheRoot(t *testing.T) {
	for _, up := range ids {
		if up == -1 {
			continue
		}
		x := arena.New[int](9)
		refused(t, x, up, api.ErrName)
		id, err := x.Add(-1, 7)
		same(t, "the root", id, 0)
		same(t, "its error", err, error(nil))
	}
	refused(t, build(t, 9, -1), -1, api.ErrName)
	refused(t, build(t, 9, ups...), -1, api.ErrName)
}

// P5.1: of every number it is known whether something can be beneath it.
func TestAddAtEveryNumber(t *testing.T) {
	for _, up := range ids {
		x := build(t, 9, ups...)
		if up < 0 || up >= len(ups) {
			refused(t, x, up, api.ErrName)
			continue
		}
		kids := x.Kids(up)
		id, err := x.Add(up, 200)
		same(t, "Add", id, len(ups))
		same(t, "its error", err, error(nil))
		same(t, "Len", x.Len(), len(ups)+1)
		sameList(t, "Kids", x.Kids(up), append(kids, id)...)
	}
}

// P5.1: of a full tree the number that there isn't comes ahead of that it is full.
func TestAddToAFullTree(t *testing.T) {
	for n := range len(ups) + 1 {
		x := build(t, n, ups[:n]...)
		for _, up := range ids {
			kind := api.ErrName
			if up >= 0 && up < n || n == 0 && up == -1 {
				kind = api.ErrMany
			}
			refused(t, x, up, kind)
		}
	}
	for _, most := range []int{math.MinInt, -2, -1, 0} {
		x := arena.New[int](most)
		refused(t, x, -1, api.ErrMany)
		refused(t, x, 0, api.ErrName)
	}
}

// refused asks, too, that a value that isn't taken leaves no trace.
func refused(t *testing.T, x *arena.Tree[int], up int, kind api.Errno) {
	t.Helper()
	before := tell(x)
	id, err := x.Add(up, 999)
	wrong(t, "Add", err, kind, up)
	same(t, "the number beside an error", id, 0)
	same(t, "the tree behind an error", tell(x), before)
}

// P5.1: behind a refused value the numbers go on without a gap.
func TestAddBehindAnError(t *testing.T) {
	x := build(t, 3, -1, 0)
	refused(t, x, 2, api.ErrName)
	id, err := x.Add(1, 102)
	same(t, "Add", id, 2)
	same(t, "its error", err, error(nil))
	refused(t, x, 2, api.ErrMany)
	sameList(t, "Walk", x.Walk(0), 0, 1, 2)
}

// P5.2 and P5.3: what every call answers of a number that there isn't.
func notThere(t *testing.T, x *arena.Tree[int], id int) {
	t.Helper()
	v, ok := x.Value(id)
	same(t, "Value", []any{v, ok}, []any{0, false})
	wrong(t, "Set", x.Set(id, 5), api.ErrName, id)
	sameList(t, "Kids", x.Kids(id))
	for _, at := range ids {
		noKid(t, x, id, at)
	}
	up, ok := x.Up(id)
	same(t, "Up", []any{up, ok}, []any{0, false})
	same(t, "Deep", x.Deep(id), -1)
	sameList(t, "Walk", x.Walk(id))
}

func noKid(t *testing.T, x *arena.Tree[int], id, at int) {
	t.Helper()
	kid, ok := x.Kid(id, at)
	same(t, "Kid", []any{kid, ok}, []any{0, false})
}

// P5.2 and P5.3
func TestNumbersThatThereArent(t *testing.T) {
	x := build(t, 99, ups...)
	before := tell(x)
	for _, id := range ids {
		if id < 0 || id >= len(ups) {
			notThere(t, x, id)
		}
	}
	same(t, "the tree", tell(x), before)
}

// P5.2: Set changes that one value, and nothing else.
func TestValueAndSet(t *testing.T) {
	for set := range ups {
		x := build(t, 99, ups...)
		same(t, "Set", x.Set(set, 5), error(nil))
		for id := range ups {
			v, ok := x.Value(id)
			want := 100 + id
			if id == set {
				want = 5
			}
			same(t, "Value", []any{v, ok}, []any{want, true})
		}
		same(t, "Len", x.Len(), len(ups))
		sameList(t, "Walk", x.Walk(0), 0, 1, 2, 5, 4, 3, 6)
	}
	x := build(t, 1, -1)
	same(t, "Set in a full tree", x.Set(0, 1), error(nil))
	same(t, "Set again", x.Set(0, 2), error(nil))
	v, _ := x.Value(0)
	same(t, "Value", v, 2)
}

// P5.2
func TestKidsKidAndUp(t *testing.T) {
	x := build(t, 99, ups...)
	for id, want := range [][]int{{1, 3}, {2, 4}, {5}, {6}, {}, {}, {}} {
		sameList(t, "Kids", x.Kids(id), want...)
		for _, at := range ids {
			if at < 0 || at >= len(want) {
				noKid(t, x, id, at)
				continue
			}
			kid, ok := x.Kid(id, at)
			same(t, "Kid", []any{kid, ok}, []any{want[at], true})
		}
	}
	for id, want := range ups {
		up, ok := x.Up(id)
		if id == 0 {
			same(t, "Up of the root", []any{up, ok}, []any{0, false})
		} else {
			same(t, "Up", []any{up, ok}, []any{want, true})
		}
	}
}

// P5.3
func TestDeepAndWalk(t *testing.T) {
	x := build(t, 99, ups...)
	for id, want := range []int{0, 1, 2, 1, 2, 3, 2} {
		same(t, "Deep", x.Deep(id), want)
	}
	for id, want := range [][]int{{0, 1, 2, 5, 4, 3, 6}, {1, 2, 5, 4}, {2, 5}, {3, 6}, {4}, {5}, {6}} {
		sameList(t, "Walk", x.Walk(id), want...)
	}
	one := build(t, 1, -1)
	same(t, "Deep of a root alone", one.Deep(0), 0)
	sameList(t, "Walk of a root alone", one.Walk(0), 0)
}

// model tells of a tree what the promises say, from what the values are beneath alone.
type model []int

func (m model) kids(id int) []int {
	var list []int
	for kid, up := range m {
		if up == id {
			list = append(list, kid)
		}
	}
	return list
}

func (m model) deep(id int) int {
	if id == 0 {
		return 0
	}
	return 1 + m.deep(m[id])
}

func (m model) walk(id int) []int {
	list := []int{id}
	for _, kid := range m.kids(id) {
		list = append(list, m.walk(kid)...)
	}
	return list
}

func (m model) check(t *testing.T) {
	t.Helper()
	x := build(t, len(m), m...)
	for id, up := range m {
		sameList(t, "Kids", x.Kids(id), m.kids(id)...)
		sameList(t, "Walk", x.Walk(id), m.walk(id)...)
		same(t, "Deep", x.Deep(id), m.deep(id))
		got, ok := x.Up(id)
		same(t, "Up", []any{got, ok}, []any{max(up, 0), id > 0})
		for at, want := range m.kids(id) {
			kid, ok := x.Kid(id, at)
			same(t, "Kid", []any{kid, ok}, []any{want, true})
		}
	}
}

// P5.1 to P5.3: every tree of six values.
func TestEveryTree(t *testing.T) {
	var grow func(m model)
	grow = func(m model) {
		if len(m) == 6 {
			m.check(t)
			return
		}
		for up := range m {
			grow(append(slices.Clip(m), up))
		}
	}
	grow(model{-1})
}

// P5.1 to P5.3, P1: as deep as the document's bound for parts in one another, and deeper; as wide; and both.
func TestGreatTrees(t *testing.T) {
	const size = 1<<16 + 10
	x := arena.New[int](math.MaxInt)
	for i := range size {
		x.Add(i-1, i)
	}
	same(t, "Deep", x.Deep(size-1), size-1)
	walk := x.Walk(0)
	for i := range size {
		x.Add(size-1, i)
		if walk[i] != i {
			t.Fatalf("Walk: %d at %d", walk[i], i)
		}
	}
	same(t, "Len", x.Len(), 2*size)
	same(t, "Deep", x.Deep(2*size-1), size)
	kids := x.Kids(size - 1)
	same(t, "the number of Kids", len(kids), size)
	same(t, "Walk of the last with Kids", x.Walk(size - 1)[1:], kids)
	same(t, "the number of Walk", len(x.Walk(0)), 2*size)
}

// P5.4: what values point to is shared, and values are of any type.
func TestValuesAreKept(t *testing.T) {
	list, spot, key := []int{1, 2}, 3, "k"
	lists := arena.New[[]int](2)
	lists.Add(-1, list)
	list[0] = 9
	got, _ := lists.Value(0)
	sameList(t, "a list", got, 9, 2)
	got[1] = 8
	sameList(t, "the list that was handed in", list, 9, 8)
	again, _ := lists.Value(0)
	sameList(t, "the list again", again, 9, 8)

	spots := arena.New[*int](2)
	spots.Add(-1, nil)
	spots.Set(0, &spot)
	if p, ok := spots.Value(0); p != &spot || !ok {
		t.Error("another pointer")
	}
	maps := arena.New[map[string]int](1)
	maps.Add(-1, map[string]int{key: 1})
	m, _ := maps.Value(0)
	m[key] = 2
	m, _ = maps.Value(0)
	same(t, "a map", m[key], 2)

	funcs := arena.New[func() int](1)
	funcs.Add(-1, func() int { return spot })
	f, _ := funcs.Value(0)
	same(t, "a function", f(), 3)
	none, ok := funcs.Value(1)
	if none != nil || ok {
		t.Error("a function of a number that there isn't")
	}
	anys := arena.New[any](1)
	anys.Add(-1, api.Node{Kind: api.NodeText})
	v, _ := anys.Value(0)
	same(t, "any value", v, any(api.Node{Kind: api.NodeText}))
}

// P5.4: an array is a value: what is done to the one that is answered isn't seen in the tree.
func TestArraysAreValues(t *testing.T) {
	x := arena.New[[2]int](1)
	in := [2]int{1, 2}
	x.Add(-1, in)
	in[0] = 9
	v, _ := x.Value(0)
	v[1] = 9
	v, _ = x.Value(0)
	same(t, "the array", v, [2]int{1, 2})
}

// P5.4: lists are by themselves, their spare room too, and stay as they were when more is added.
func TestListsAreNew(t *testing.T) {
	x := build(t, 99, -1, 0, 0, 0, 1)
	before := tell(x)
	for id := range x.Len() {
		for _, list := range []func(int) []int{x.Kids, x.Walk} {
			one, other := list(id), list(id)
			want := slices.Clone(other)
			one = one[:cap(one)]
			for i := range one {
				one[i] = -7
			}
			sameList(t, "the other list", other, want...)
		}
	}
	same(t, "the tree", tell(x), before)

	kids, walk := x.Kids(0), x.Walk(0)
	spare := append(kids, 77)
	for range 9 {
		x.Add(0, 0)
	}
	sameList(t, "Kids as they were", kids, 1, 2, 3)
	sameList(t, "its spare room", spare, 1, 2, 3, 77)
	sameList(t, "Walk as it was", walk, 0, 1, 4, 2, 3)
}

// What New gives is by itself.
func TestTreesAreApart(t *testing.T) {
	a, b := build(t, 9, -1, 0), build(t, 9, -1, 0)
	before := tell(b)
	a.Add(0, 1)
	a.Set(1, 5)
	refused(t, a, 9, api.ErrName)
	same(t, "the other tree", tell(b), before)
}

// Errors are by themselves.
func TestErrorsAreNew(t *testing.T) {
	x := build(t, 1, -1)
	errA, errB := x.Set(5, 0), x.Set(5, 0)
	errA.(*api.Fault).At = 9
	wrong(t, "Set", errB, api.ErrName, 5)
}

// P1 and P2: all calls end, none panics, and a second run answers what the first one did.
func TestAnyArguments(t *testing.T) {
	run := func() []any {
		var all []any
		for _, most := range ids {
			x := arena.New[int](most)
			for _, up := range slices.Concat(ids, ids) {
				id, err := x.Add(up, up)
				all = append(all, id, err, x.Set(up, id))
				all = append(all, tell(x)...)
			}
		}
		return all
	}
	same(t, "the second run", run(), run())
}
