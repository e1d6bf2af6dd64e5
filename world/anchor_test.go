package world_test

import (
	"bytes"
	"math"
	"testing"

	"oubliette/api"
	"oubliette/world"
)

// root: a root whose parts are all unlike.
func root(epoch uint32, x byte) api.Root {
	r := api.Root{Epoch: epoch, Top: api.Record{At: 0x0201 + int(x)<<16, Epoch: 0x06050403, Seq: 0x0a090807}}
	copy(r.Top.Sum[:], run(api.SumLen, x))
	return r
}

// bytesOf: the bytes of root's record.
func bytesOf(x byte) []byte {
	return append([]byte{1, 2, x, 0, 3, 4, 5, 6, 7, 8, 9, 10}, run(api.SumLen, x)...)
}

// set: what should do.
func set(t *testing.T, a *world.Anchor, r api.Root) {
	t.Helper()
	if e := a.Set(r); e != api.OK {
		t.Fatalf("P5.4: Set(%v): %v", r, e)
	}
	if a.Get() != r {
		t.Errorf("P5.4: Get: %v, not %v", a.Get(), r)
	}
}

func TestAnchor(t *testing.T) {
	a := world.NewAnchor()
	if a == nil || a.Get() != (api.Root{}) || a.Touched() != 0 || len(a.Trace()) != 0 {
		t.Fatalf("P5.4: a new anchor: %v, %d, %v", a.Get(), a.Touched(), a.Trace())
	}
	if e := a.Set(api.Root{Epoch: 2}); int(e) != 205 {
		t.Errorf("P5.4: Set(epoch 2): %v", e)
	}
	set(t, a, api.Root{Epoch: 1})
	var want []api.Touch
	want = append(want, api.Touch{Kind: 4, At: 1, Bytes: make([]byte, 44)})
	traced(t, "P5.5", a.Trace(), want, a.Touched())
	for epoch := 2; epoch < 600; epoch++ {
		set(t, a, root(uint32(epoch), byte(epoch)))
		want = append(want, api.Touch{Kind: api.TouchAnchor, At: epoch, Bytes: bytesOf(byte(epoch))})
		a.Get()
	}
	traced(t, "P5.5", a.Trace(), want, a.Touched())
}

func TestRefusedSets(t *testing.T) {
	a := world.NewAnchor()
	for held := range uint32(4) {
		for _, epoch := range []uint32{0, 1, 2, 3, 4, 5, 6, 256, 1 << 31, math.MaxUint32 - 1, math.MaxUint32} {
			if epoch == held+1 {
				continue
			}
			before := a.Get()
			if e := a.Set(root(epoch, 9)); e != api.ErrState {
				t.Errorf("P5.4: epoch %d behind %d: %v", epoch, held, e)
			}
			if a.Get() != before || a.Touched() != int(held) || len(a.Trace()) != int(held) {
				t.Errorf("P5.4: a refused epoch %d behind %d: %v, %d", epoch, held, a.Get(), a.Touched())
			}
		}
		set(t, a, root(held+1, byte(held)))
	}
}

// TestAnchorTakesAnyRecord: one that may not be, too; a number that has more than 32 bits is told by its last ones.
func TestAnchorTakesAnyRecord(t *testing.T) {
	a := world.NewAnchor()
	most := []byte{0xff, 0xff, 0xff, 0xff}
	for i, x := range []struct {
		at   int
		told []byte
	}{{0, make([]byte, 4)}, {1, []byte{1, 0, 0, 0}}, {1025, []byte{1, 4, 0, 0}}, {math.MaxUint32, most}, {-1, most}, {1<<32 + 5, []byte{5, 0, 0, 0}}, {math.MaxInt, most}, {math.MinInt, make([]byte, 4)}} {
		r := api.Root{Epoch: uint32(i + 1), Top: api.Record{At: x.at, Epoch: math.MaxUint32, Seq: 3}}
		set(t, a, r)
		want := append(bytes.Clone(x.told), 0xff, 0xff, 0xff, 0xff, 3, 0, 0, 0)
		want = append(want, make([]byte, 32)...)
		if got := a.Trace()[i]; got.Kind != api.TouchAnchor || got.At != i+1 || !bytes.Equal(got.Bytes, want) {
			t.Errorf("P5.5: At %d: %v", x.at, got)
		}
	}
}

func TestAnchorsTraceIsNewMemory(t *testing.T) {
	a := world.NewAnchor()
	set(t, a, root(1, 1))
	set(t, a, root(2, 2))
	first := a.Trace()
	for i, x := range first {
		_ = append(x.Bytes, 1, 2, 3)
		clear(x.Bytes)
		first[i] = api.Touch{}
	}
	want := []api.Touch{{Kind: 4, At: 1, Bytes: bytesOf(1)}, {Kind: 4, At: 2, Bytes: bytesOf(2)}}
	traced(t, "P5.5", a.Trace(), want, a.Touched())
	if a.Get() != root(2, 2) {
		t.Errorf("P5.4: Get: %v", a.Get())
	}
}

// TestCrashLeavesTheAnchor: of a disk's doings an anchor knows nothing, nor of another anchor's.
func TestCrashLeavesTheAnchor(t *testing.T) {
	a, other, d := world.NewAnchor(), world.NewAnchor(), disk(t, 2)
	set(t, a, root(1, 5))
	write(t, d, 0, 1)
	d.Crash(nil)
	d.Barrier()
	tamper(t, d, api.TamperSet, 0, 0)
	if a.Get() != root(1, 5) || a.Touched() != 1 || other.Get() != (api.Root{}) || other.Touched() != 0 {
		t.Errorf("P5.4: %v and %v", a.Get(), other.Get())
	}
	if d.Touched() != 2 {
		t.Errorf("P5.5: Touched of the disk: %d", d.Touched())
	}
}

func TestNoAnchor(t *testing.T) {
	var a *world.Anchor
	for range 2 {
		for _, epoch := range []uint32{0, 1, 2, math.MaxUint32} {
			if e := a.Set(root(epoch, 1)); e != api.ErrState {
				t.Errorf("P5.5: Set(epoch %d): %v", epoch, e)
			}
		}
		if a.Get() != (api.Root{}) || a.Touched() != 0 || len(a.Trace()) != 0 {
			t.Errorf("P5.5: %v, %d, %v", a.Get(), a.Touched(), a.Trace())
		}
	}
}
