package view_test

import (
	"errors"
	"runtime"
	"slices"
	"strings"
	"testing"

	"oubliette/api"
	"oubliette/view"
)

// recovered: what a function panicked with; nil, if it didn't.
func recovered(f func()) (by any) {
	defer func() { by = recover() }()
	f()
	return nil
}

// goesOn: a run's function panics with something, and that goes on out of Run; the next runs aren't touched by it.
func goesOn(t *testing.T, v *view.View, by any, f func()) {
	t.Helper()
	if got := recovered(func() {
		slot, ok := v.Run(f)
		t.Errorf("P12.3: a panic by %v: Run: %d, %v", by, slot, ok)
	}); got != by {
		t.Fatalf("P12.3: a panic by %v goes on as %v", by, got)
	}
	changes(t, v)
	ends(t, v, func() { v.Put(8, block('e')) })
	changes(t, v, 8, block('e'))
	wants(t, v, 9, func() {
		v.Put(8, block('f'))
		v.See(9)
	})
}

// two: something of a type that no one else has.
type two struct{ a, b byte }

// TestOwnPanic: a panic of the function's own goes on, by numbers, texts, errors and more; slots' numbers, too, known, put and not known.
func TestOwnPanic(t *testing.T) {
	s := source{1: block('s')}
	v := view.New(s.get)
	for _, by := range []any{
		0, 1, 2, 3, 9, -1, int64(2), int32(2), uint(2), byte(2), 2.0, true, false,
		"", "2", "text", errors.New("an error"), api.OK, api.IO, api.Errno(2), two{1, 2}, &two{}, new(int), v,
		struct {
			Wants bool
			Slot  int
		}{true, 2},
	} {
		goesOn(t, v, by, func() { panic(by) })
		goesOn(t, v, by, func() {
			v.Put(1, block('a'))
			v.Put(3, block('b'))
			v.See(1)
			panic(by)
		})
		goesOn(t, v, by, func() {
			defer func() {
				recover()
				panic(by)
			}()
			v.See(2)
		})
	}
	s.same(t, source{1: block('s')})
}

// TestOwnPanicOfTheRuntime: likewise a fault that Go finds, and a panic by nil.
func TestOwnPanicOfTheRuntime(t *testing.T) {
	v := view.New(source{}.get)
	var none map[int]int
	var list []int
	for why, f := range map[string]func(){
		"nil map":      func() { none[0] = 1 },
		"out of range": func() { list[len(none)] = 1 },
		"divide":       func() { list = make([]int, 1/len(none)) },
		"nil":          func() { panic(nil) },
	} {
		by, ok := recovered(func() { v.Run(f) }).(runtime.Error)
		if !ok || !strings.Contains(by.Error(), why) {
			t.Fatalf("P12.3: %s goes on as %v", why, by)
		}
		changes(t, v)
	}
}

// TestPanicOfTheSource: a panic of the source, asked by See, goes on as well.
func TestPanicOfTheSource(t *testing.T) {
	v := view.New(func(slot int) ([]byte, bool) {
		if slot == 1 {
			panic("source")
		}
		return nil, false
	})
	goesOn(t, v, "source", func() {
		v.Put(2, nil)
		v.See(1)
	})
}

// TestOwnPanicWithin: a panic goes on through a run within a run, of the same view or another one.
func TestOwnPanicWithin(t *testing.T) {
	a, b := view.New(source{}.get), view.New(source{}.get)
	goesOn(t, a, "own", func() {
		a.Run(func() { panic("own") })
	})
	goesOn(t, a, "own", func() {
		b.Run(func() { panic("own") })
	})
	ends(t, a, func() {
		goesOn(t, a, 7, func() { panic(7) })
		goesOn(t, b, 7, func() { panic(7) })
	})
}

// TestElderWant: what a run gave up by isn't taken for its own by another one, of the same view or another one.
func TestElderWant(t *testing.T) {
	a, b := view.New(source{}.get), view.New(source{}.get)
	var by any
	wants(t, a, 1, func() {
		by = recovered(func() { a.See(1) })
		panic(by)
	})
	goesOn(t, a, by, func() { panic(by) })
	goesOn(t, b, by, func() { panic(by) })
}

// TestHandedOn: a function that recovers, looks, and panics again by the same gives up as if it had let it be.
func TestHandedOn(t *testing.T) {
	v := view.New(source{}.get)
	wants(t, v, 1, func() {
		defer func() {
			if by := recover(); by != "own" {
				panic(by)
			}
		}()
		v.Put(2, block('a'))
		v.See(1)
	})
}

// TestSwallowed: a function that recovers from all panics by itself has still come to a slot that isn't known: its run ends at the first one, without changes.
func TestSwallowed(t *testing.T) {
	s := source{}
	v := view.New(s.get)
	f := func() {
		v.Put(5, block('p'))
		for _, slot := range []int{3, 1, 0, 5, 2} {
			if by := recovered(func() { v.See(slot) }); by != nil {
				v.Put(6, block('q'))
			}
		}
		v.Put(7, block('r'))
	}
	var asked []int
	for range 4 {
		slot, ok := v.Run(f)
		if ok {
			t.Fatalf("P12.5: Run: %d, true, behind %v", slot, asked)
		}
		changes(t, v)
		asked = append(asked, slot)
		s[slot] = nil
	}
	if !slices.Equal(asked, []int{3, 1, 0, 2}) {
		t.Fatalf("P12.2: wanted: %v", asked)
	}
	ends(t, v, f)
	changes(t, v, 5, block('p'), 7, block('r'))
}

// TestLeft: a function that leaves its goroutine comes to no end, and no change stays.
func TestLeft(t *testing.T) {
	v := view.New(source{}.get)
	done := make(chan bool)
	go func() {
		defer close(done)
		v.Run(func() {
			v.Put(1, block('a'))
			runtime.Goexit()
		})
	}()
	<-done
	changes(t, v)
	sees(t, v, 1, nil)
	ends(t, v, func() { v.Put(2, block('b')) })
	changes(t, v, 2, block('b'))
}
