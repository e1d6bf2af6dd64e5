package world_test

import (
	"math"
	"testing"

	"oubliette/api"
)

func TestTamperSet(t *testing.T) {
	for _, size := range []int{0, 1, 100, 255, 256, 257, 512, 5000} {
		d := disk(t, 2)
		write(t, d, 1, 8)
		d.Barrier()
		write(t, d, 1, 9)
		tamper(t, d, api.TamperSet, 1, 0, run(size, 3)...)
		want := fill(0)
		copy(want, run(size, 3))
		has(t, "P5.3", d, 1, want)
		waits(t, "P5.3", d, 0)
		d.Crash(nil)
		has(t, "P5.3: synced", d, 1, want)
		d.Barrier()
		has(t, "P5.3", d, 1, want)
		has(t, "P5.3", d, 0, fill(0))
		write(t, d, 1, 7)
		has(t, "P5.3: written behind it", d, 1, fill(7))
		d.Crash(nil)
		has(t, "P5.3", d, 1, want)
	}
}

func TestTamperCopy(t *testing.T) {
	d := disk(t, 4)
	write(t, d, 1, 1)
	write(t, d, 2, 2)
	d.Barrier()
	write(t, d, 1, 3, 4)
	write(t, d, 2, 5)
	tamper(t, d, api.TamperCopy, 2, 1) // of a block that has waiting writes: the last one
	hold(t, "P5.3", d, 0, 4, 4, 0)
	waits(t, "P5.3", d, 2)
	d.Crash(nil)
	hold(t, "P5.3: the copy is synced, what it was of isn't", d, 0, 1, 4, 0)
	write(t, d, 2, 6)
	hold(t, "P5.3: no more than bytes", d, 0, 1, 6, 0)
	tamper(t, d, api.TamperCopy, 3, 1)
	tamper(t, d, api.TamperCopy, 1, 0) // of one that was never written
	hold(t, "P5.3", d, 0, 0, 6, 1)
	write(t, d, 0, 9)
	d.Barrier()
	hold(t, "P5.3", d, 9, 0, 6, 1)
}

func TestTamperCopyOntoItself(t *testing.T) {
	d := disk(t, 2)
	write(t, d, 0, 7)
	write(t, d, 1, 1, 2)
	tamper(t, d, api.TamperCopy, 1, 1)
	hold(t, "P5.3", d, 7, 2)
	waits(t, "P5.3", d, 1)
	d.Crash(nil)
	hold(t, "P5.3: what it is now is synced", d, 0, 2)
	tamper(t, d, api.TamperCopy, 1, 1)
	tamper(t, d, api.TamperCopy, 0, 0)
	hold(t, "P5.3", d, 0, 2)
}

// TestTamperOld: synced, waiting and lost writes, another block's between, and tampered bytes that nobody wrote.
func TestTamperOld(t *testing.T) {
	for n, want := range []byte{6, 5, 4, 3, 2, 1, 0, 0, 0} {
		d := disk(t, 2)
		write(t, d, 1, 1)
		write(t, d, 0, 77)
		d.Barrier()
		write(t, d, 1, 2, 3)
		d.Crash([]bool{true, false})
		tamper(t, d, api.TamperSet, 1, 0, fill(88)...)
		tamper(t, d, api.TamperCopy, 1, 0)
		write(t, d, 0, 99)
		write(t, d, 1, 4, 5)
		tamper(t, d, api.TamperDrop, 1, 0)
		tamper(t, d, api.TamperOld, 1, 1)
		write(t, d, 1, 6)
		tamper(t, d, api.TamperOld, 1, n)
		hold(t, "P5.3", d, 99, want)
		waits(t, "P5.3: what waits of another one", d, 1)
		tamper(t, d, api.TamperOld, 1, n)
		hold(t, "P5.3: once more", d, 99, want)
		d.Crash(nil)
		hold(t, "P5.3: synced", d, 77, want)
	}
	d := disk(t, 3)
	for _, n := range []int{0, 1, math.MaxInt} {
		write(t, d, 1, 5)
		tamper(t, d, api.TamperSet, 0, 0, fill(3)...)
		tamper(t, d, api.TamperOld, 0, n)
		hold(t, "P5.3: never written", d, 0, 5, 0)
		tamper(t, d, api.TamperOld, 1, math.MaxInt)
		hold(t, "P5.3: further than the first write", d, 0, 0, 0)
	}
}

func TestTamperDrop(t *testing.T) {
	d := disk(t, 3)
	tamper(t, d, api.TamperDrop, 1, 0) // nothing waits
	write(t, d, 1, 1)
	d.Barrier()
	tamper(t, d, api.TamperDrop, 1, 0)
	hold(t, "P5.3: what is synced stays", d, 0, 1, 0)
	write(t, d, 0, 2)
	write(t, d, 1, 3)
	write(t, d, 0, 4)
	write(t, d, 1, 5)
	write(t, d, 2, 6)
	tamper(t, d, api.TamperDrop, 1, 0)
	hold(t, "P5.3: the last of several", d, 4, 3, 6)
	waits(t, "P5.3", d, 4)
	tamper(t, d, api.TamperDrop, 0, 0)
	hold(t, "P5.3", d, 2, 3, 6)
	tamper(t, d, api.TamperDrop, 1, 5)
	hold(t, "P5.3", d, 2, 1, 6)
	waits(t, "P5.3", d, 2)
	tamper(t, d, api.TamperDrop, 1, 0)
	tamper(t, d, api.TamperDrop, 1, 0)
	hold(t, "P5.3", d, 2, 1, 6)
	waits(t, "P5.3", d, 2)
	d.Barrier()
	hold(t, "P5.3", d, 2, 1, 6)
}

// TestWhatWaitsOfOthers: it waits still, in its order, and a crash counts it by its new place.
func TestWhatWaitsOfOthers(t *testing.T) {
	kinds := []api.Tamper{
		{Kind: api.TamperSet, At: 1, Bytes: fill(9)},
		{Kind: api.TamperCopy, At: 1, N: 3},
		{Kind: api.TamperOld, At: 1, N: 2},
	}
	tampered := []byte{9, 8, 5}
	for i, x := range kinds {
		for bits := range 1 << 4 {
			d := disk(t, 4)
			write(t, d, 1, 5)
			write(t, d, 3, 8)
			d.Barrier()
			write(t, d, 0, 1)
			write(t, d, 1, 20)
			write(t, d, 2, 2)
			write(t, d, 1, 21)
			write(t, d, 0, 3)
			if e := d.Tamper(x); e != api.OK {
				t.Fatalf("P5.3: %v: %v", x, e)
			}
			hold(t, "P5.3", d, 3, tampered[i], 2, 8)
			waits(t, "P5.3", d, 3)
			want := []byte{0, tampered[i], 0, 8}
			var keep []bool
			for k, w := range []struct{ at, x byte }{{0, 1}, {2, 2}, {0, 3}, {3, 0}} {
				keep = append(keep, bits>>k&1 == 1)
				if keep[k] && w.x != 0 {
					want[w.at] = w.x
				}
			}
			d.Crash(keep)
			hold(t, "P5.3", d, want...)
		}
	}
}

// TestRefusedTampers: ErrArg, and nothing has changed.
func TestRefusedTampers(t *testing.T) {
	var list []api.Tamper
	for _, n := range []int{0, 1, 7} {
		for _, kind := range []int{0, 5, 6, -1, math.MaxInt, math.MinInt} {
			list = append(list, api.Tamper{Kind: kind, At: 1, N: n, Bytes: fill(99)})
		}
	}
	for kind := 1; kind <= 4; kind++ {
		for _, at := range []int{-1, 3, 4, math.MaxInt, math.MinInt} {
			list = append(list, api.Tamper{Kind: kind, At: at, Bytes: fill(99)})
		}
		for _, n := range []int{-1, -2, math.MinInt} {
			list = append(list, api.Tamper{Kind: kind, At: 1, N: n, Bytes: fill(99)})
		}
	}
	for _, n := range []int{3, 4, 1024, math.MaxInt} {
		list = append(list, api.Tamper{Kind: api.TamperCopy, At: 1, N: n})
	}
	d := disk(t, 3)
	write(t, d, 1, 1)
	d.Barrier()
	write(t, d, 1, 2)
	write(t, d, 2, 3)
	want := d.Trace()
	for _, x := range list {
		if e := d.Tamper(x); e != api.ErrArg {
			t.Errorf("P5.3: %v: %v", x, e)
		}
		hold(t, "P5.3", d, 0, 2, 3)
		waits(t, "P5.3", d, 2)
		traced(t, "P5.3", d.Trace(), want, d.Touched())
	}
	d.Crash(nil)
	hold(t, "P5.3", d, 0, 1, 0)
	// N isn't held against the blocks where it is none.
	tamper(t, d, api.TamperSet, 1, 7, fill(4)...)
	hold(t, "P5.3", d, 0, 4, 0)
	tamper(t, d, api.TamperDrop, 1, 7)
	tamper(t, d, api.TamperOld, 1, 7)
	hold(t, "P5.3", d, 0, 0, 0)
}
