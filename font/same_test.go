package font

import (
	"cmp"
	"math"
	"math/rand"
	"reflect"
	"slices"
	"testing"

	"foundry/api"
)

// alike is whether two values hold the same, lists without elements being all one: by what the types are, not by their names.
func alike(x, y any) bool {
	return alikeValues(reflect.ValueOf(x), reflect.ValueOf(y))
}

func alikeValues(x, y reflect.Value) bool {
	switch x.Kind() {
	case reflect.Slice:
		if x.Len() != y.Len() {
			return false
		}
		for i := range x.Len() {
			if !alikeValues(x.Index(i), y.Index(i)) {
				return false
			}
		}
		return true
	case reflect.Struct:
		for i := range x.NumField() {
			if !alikeValues(x.Field(i), y.Field(i)) {
				return false
			}
		}
		return true
	}
	return x.Equal(y)
}

// places calls see for each number, text, truth and list of a value, with its path.
func places(x reflect.Value, path string, see func(path string, x reflect.Value)) {
	switch x.Kind() {
	case reflect.Slice:
		see(path, x)
		for i := range x.Len() {
			places(x.Index(i), path+"[]", see)
		}
	case reflect.Struct:
		for i := range x.NumField() {
			places(x.Field(i), path+"."+x.Type().Field(i).Name, see)
		}
	default:
		see(path, x)
	}
}

// others is values that x isn't.
func others(x reflect.Value) []reflect.Value {
	var l []reflect.Value
	switch x.Kind() {
	case reflect.Int:
		n := x.Int()
		for _, m := range []int64{n + 1, n - 1, -n, n + 1<<8, n + 1<<16, n + 1<<32, math.MaxInt64, math.MinInt64} {
			if m != n {
				l = append(l, reflect.ValueOf(int(m)))
			}
		}
	case reflect.Bool:
		l = append(l, reflect.ValueOf(!x.Bool()))
	case reflect.String:
		for _, s := range []string{"", x.String() + " ", "x" + x.String()[1:], x.String()[:3] + "\x00"} {
			l = append(l, reflect.ValueOf(s))
		}
	case reflect.Slice:
		zero := reflect.Zero(x.Type().Elem())
		l = append(l, reflect.Append(x.Slice3(0, x.Len(), x.Len()), zero))
		if x.Len() > 0 {
			l = append(l, x.Slice(0, x.Len()-1), x.Slice(1, x.Len()), reflect.Zero(x.Type()))
			l = append(l, reflect.AppendSlice(reflect.Append(reflect.Zero(x.Type()), zero), x))
		}
	}
	return l
}

// expectSame asks both ways.
func expectSame(t *testing.T, name string, f, g api.Font, want bool) {
	t.Helper()
	if Same(f, g) != want || Same(g, f) != want {
		t.Errorf("%s: %v, %v, want %v", name, Same(f, g), Same(g, f), want)
	}
}

// TestSame is P24.3: fonts that differ in any one thing, deep within, aren't alike.
func TestSame(t *testing.T) {
	f, g := full(), full()
	expectSame(t, "two full ones", f, g, true)
	expectSame(t, "two zero ones", api.Font{}, api.Font{}, true)
	expectSame(t, "a full one and a zero one", f, api.Font{}, false)
	seen := map[string]int{}
	places(reflect.ValueOf(&g).Elem(), "", func(path string, x reflect.Value) {
		was := reflect.New(x.Type()).Elem()
		was.Set(x)
		for _, other := range others(was) {
			x.Set(other)
			expectSame(t, path, f, g, false)
			expectSame(t, path+", itself", g, g, true)
			seen[path]++
		}
		x.Set(was)
	})
	expectSame(t, "as it was", f, g, true)
	for _, path := range everyPath(reflect.TypeFor[api.Font](), "") {
		if seen[path] == 0 {
			t.Error("the full font has none of", path)
		}
	}
}

// everyPath is the paths of all numbers, texts, truths and lists that a type has.
func everyPath(x reflect.Type, path string) []string {
	switch x.Kind() {
	case reflect.Slice:
		return append(everyPath(x.Elem(), path+"[]"), path)
	case reflect.Struct:
		var l []string
		for i := range x.NumField() {
			l = append(l, everyPath(x.Field(i).Type, path+"."+x.Field(i).Name)...)
		}
		return l
	}
	return []string{path}
}

// listsOf is all lists of a font, those within others too.
func listsOf(f *api.Font) []reflect.Value {
	var l []reflect.Value
	places(reflect.ValueOf(f).Elem(), "", func(_ string, x reflect.Value) {
		if x.Kind() == reflect.Slice {
			l = append(l, x)
		}
	})
	return l
}

// TestSameOfNone: lists of no elements, and none, are alike, wherever they stand.
func TestSameOfNone(t *testing.T) {
	f := full()
	for i := range listsOf(&f) {
		none, empty := full(), full()
		listsOf(&none)[i].SetZero()
		list := listsOf(&empty)[i]
		list.Set(reflect.MakeSlice(list.Type(), 0, 3))
		expectSame(t, "of "+list.Type().String(), none, empty, true)
		if Formed(none) != Formed(empty) {
			t.Error("one is formed:", list.Type())
		}
		b, e := Write(none)
		if c, x := Write(empty); e != x || string(b) != string(c) {
			t.Error("they are written otherwise:", list.Type(), e, x)
		}
	}
	// A list of none isn't none.
	for _, change := range []func(f *api.Font){
		func(f *api.Font) { f.Bends = [][]api.Pair{nil} },
		func(f *api.Font) { f.Drawings = [][]api.Step{nil} },
		func(f *api.Font) { f.Store.Rows = [][]int{nil} },
		func(f *api.Font) { f.Store.Regions = [][]api.Tent{nil} },
	} {
		f := least()
		change(&f)
		expectSame(t, "a list of none", f, least(), false)
	}
}

// TestSameAtRandom: fonts that may differ in a few things.
func TestSameAtRandom(t *testing.T) {
	r := rand.New(rand.NewSource(243))
	same := 0
	for range 3000 {
		f, g := full(), full()
		for range r.Intn(3) {
			n := r.Intn(500)
			for _, x := range []*api.Font{&f, &g} {
				var l []reflect.Value
				places(reflect.ValueOf(x).Elem(), "", func(_ string, y reflect.Value) { l = append(l, y) })
				y := l[n%len(l)]
				if by := others(y); r.Intn(4) > 0 && len(by) > 0 {
					y.Set(by[r.Intn(min(2, len(by)))])
				}
			}
		}
		want := alike(f, g)
		expectSame(t, "at random", f, g, want)
		if want {
			same++
		}
	}
	if same < 300 || same > 2700 {
		t.Error("too few of a kind", same)
	}
}

// spare gives each list spare room, which holds what the list holds.
func spare(x reflect.Value) {
	switch x.Kind() {
	case reflect.Slice:
		for i := range x.Len() {
			spare(x.Index(i))
		}
		n := x.Len()
		roomy := reflect.AppendSlice(reflect.AppendSlice(reflect.MakeSlice(x.Type(), 0, 2*n), x), x)
		x.Set(roomy.Slice(0, n))
	case reflect.Struct:
		for i := range x.NumField() {
			spare(x.Field(i))
		}
	}
}

// expectSpared asks that the spare room holds still what spare has laid there.
func expectSpared(t *testing.T, name string, x reflect.Value) {
	t.Helper()
	places(x, "", func(path string, x reflect.Value) {
		if x.Kind() != reflect.Slice {
			return
		}
		n := x.Len()
		if !alikeValues(x.Slice(0, n), x.Slice(n, 2*n)) {
			t.Error(name, "changed the spare room of", path)
		}
	})
}

// expectApart asks that no two lists share memory, spare room too.
func expectApart(t *testing.T, name string, x reflect.Value) {
	t.Helper()
	type span struct {
		from, to uintptr
		path     string
	}
	var l []span
	places(x, "", func(path string, x reflect.Value) {
		if x.Kind() == reflect.Slice && x.Cap() > 0 {
			from := x.Pointer()
			l = append(l, span{from, from + uintptr(x.Cap())*x.Type().Elem().Size(), path})
		}
	})
	slices.SortFunc(l, func(a, b span) int { return cmp.Compare(a.from, b.from) })
	for i := 1; i < len(l); i++ {
		if l[i].from < l[i-1].to {
			t.Error(name, "share memory:", l[i-1].path, l[i].path)
		}
	}
}
