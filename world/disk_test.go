package world_test

import (
	"bytes"
	"math"
	"testing"

	"oubliette/api"
	"oubliette/world"
)

func TestExamples(t *testing.T) {
	d := disk(t, 2)
	write(t, d, 1, 'a', 'b')
	d.Crash([]bool{true})
	hold(t, "P5.2", d, 0, 'a')

	d = disk(t, 2)
	write(t, d, 1, 'a')
	d.Barrier()
	write(t, d, 1, 'b')
	tamper(t, d, api.TamperDrop, 1, 0)
	hold(t, "P5.3", d, 0, 'a')

	for n, want := range []byte{'b', 'a', 0} {
		d = disk(t, 2)
		write(t, d, 1, 'a')
		d.Barrier()
		write(t, d, 1, 'b')
		tamper(t, d, api.TamperDrop, 1, 0)
		tamper(t, d, api.TamperOld, 1, n)
		hold(t, "P5.3", d, 0, want)
	}
}

func TestDisksThatMayNotBe(t *testing.T) {
	for _, n := range []int{0, -1, -1024, 1025, 2048, math.MaxInt, math.MinInt} {
		if d, e := world.New(n); d != nil || int(e) != 201 {
			t.Errorf("P5.1: New(%d): %v, %v", n, d, e)
		}
	}
}

func TestDisksOfAllSizes(t *testing.T) {
	for _, n := range []int{1, 2, 3, 255, 256, 1023, 1024} {
		d := disk(t, n)
		if d.Blocks() != n || d.Waiting() != 0 || d.Touched() != 0 || len(d.Trace()) != 0 {
			t.Errorf("P5.1: New(%d): Blocks %d, Waiting %d, Touched %d, Trace %v", n, d.Blocks(), d.Waiting(), d.Touched(), d.Trace())
		}
		for at := range n {
			has(t, "P5.1: never written", d, at, fill(0))
			if got, e := d.Read(at); e != api.OK || !bytes.Equal(got, fill(0)) {
				t.Errorf("P5.1: Read(%d) of %d: %x, %v", at, n, got, e)
			}
		}
	}
}

// TestEachBlockIsItsOwn: all blocks of the greatest disk, each with bytes of its own.
func TestEachBlockIsItsOwn(t *testing.T) {
	for _, n := range []int{1, api.MaxBlocks} {
		d := disk(t, n)
		bytesOf := func(at int) []byte {
			b := run(api.BlockLen, byte(at))
			b[0], b[255] = byte(at), byte(at>>8)
			return b
		}
		for at := range n {
			if e := d.Write(at, bytesOf(at)); e != api.OK {
				t.Fatalf("P5.1: Write(%d): %v", at, e)
			}
		}
		for _, synced := range []bool{false, true} {
			if synced {
				d.Barrier()
			}
			for at := range n {
				has(t, "P5.1", d, at, bytesOf(at))
			}
		}
		if d.Blocks() != n {
			t.Errorf("P5.5: Blocks: %d, not %d", d.Blocks(), n)
		}
	}
}

func TestLastWaitingWrite(t *testing.T) {
	d := disk(t, 3)
	for i, x := range []byte{1, 2, 3, 0, 4} {
		write(t, d, 1, x)
		write(t, d, 2, x+100)
		hold(t, "P5.1", d, 0, x, x+100)
		if got, e := d.Read(1); e != api.OK || !bytes.Equal(got, fill(x)) {
			t.Errorf("P5.1: Read: %x, %v", got, e)
		}
		waits(t, "P5.2", d, 2*i+2)
	}
}

// TestRefusedReadsAndWrites: ErrArg, nothing waits, nothing is traced, nothing else is there.
func TestRefusedReadsAndWrites(t *testing.T) {
	for _, n := range []int{1, 2, api.MaxBlocks} {
		d := disk(t, n)
		for _, at := range []int{-1, n, n + 1, 1024, -1024, math.MaxInt, math.MinInt} {
			if b, e := d.Read(at); e != api.ErrArg || len(b) != 0 {
				t.Errorf("P5.1: Read(%d) of %d: %x, %v", at, n, b, e)
			}
			if b, e := d.Peek(at); e != api.ErrArg || len(b) != 0 {
				t.Errorf("P5.1: Peek(%d) of %d: %x, %v", at, n, b, e)
			}
			for _, size := range []int{0, 255, 256, 257} {
				if e := d.Write(at, run(size, 1)); e != api.ErrArg {
					t.Errorf("P5.1: Write(%d, %d bytes) of %d: %v", at, size, n, e)
				}
			}
		}
		for _, size := range []int{0, 1, 255, 257, 512, 4096} {
			for _, at := range []int{0, n - 1} {
				if e := d.Write(at, run(size, 1)); e != api.ErrArg {
					t.Errorf("P5.1: Write(%d, %d bytes) of %d: %v", at, size, n, e)
				}
			}
		}
		if e := d.Write(0, nil); e != api.ErrArg {
			t.Errorf("P5.1: Write(0, nothing): %v", e)
		}
		if e := d.Write(0, run(256, 1)[:255]); e != api.ErrArg {
			t.Errorf("P5.1: Write(0, 255 bytes with room for 256): %v", e)
		}
		waits(t, "P5.1", d, 0)
		traced(t, "P5.1", d.Trace(), nil, d.Touched())
		d.Barrier()
		hold(t, "P5.1", d, make([]byte, n)...)
	}
}

func TestBarrier(t *testing.T) {
	d := disk(t, 3)
	d.Barrier() // nothing waits
	waits(t, "P5.2", d, 0)
	hold(t, "P5.2", d, 0, 0, 0)
	write(t, d, 0, 1, 2)
	write(t, d, 2, 3)
	write(t, d, 0, 4)
	waits(t, "P5.2", d, 4)
	d.Barrier()
	waits(t, "P5.2", d, 0)
	hold(t, "P5.2", d, 4, 0, 3)
	d.Crash(nil)
	hold(t, "P5.2", d, 4, 0, 3)
	d.Barrier()
	d.Crash([]bool{true, true})
	hold(t, "P5.2", d, 4, 0, 3)
	waits(t, "P5.2", d, 0)
}

// TestWhatACrashKeeps: four writes to two blocks behind what was synced, under every keep.
func TestWhatACrashKeeps(t *testing.T) {
	writes := []struct {
		at int
		x  byte
	}{{0, 1}, {1, 2}, {0, 3}, {1, 4}}
	for length := range 7 {
		for bits := range 1 << length {
			keep := make([]bool, length)
			for k := range keep {
				keep[k] = bits>>k&1 == 1
			}
			d := disk(t, 3)
			write(t, d, 0, 9)
			write(t, d, 1, 8)
			write(t, d, 2, 7)
			d.Barrier()
			want := []byte{9, 8, 7}
			for k, w := range writes {
				write(t, d, w.at, w.x)
				if k < length && keep[k] {
					want[w.at] = w.x
				}
			}
			d.Crash(keep)
			waits(t, "P5.2", d, 0)
			hold(t, "P5.2, P5.6", d, want...)
			d.Crash(keep)
			d.Crash([]bool{true, true, true, true, true, true})
			hold(t, "P5.2, P5.6: two crashes", d, want...)
		}
	}
}

// TestCrashesInARow: each counts what waits from 0 on, and what was kept once stays.
func TestCrashesInARow(t *testing.T) {
	d := disk(t, 3)
	write(t, d, 0, 1)
	write(t, d, 1, 2)
	d.Crash([]bool{false, true})
	hold(t, "P5.2", d, 0, 2, 0)
	write(t, d, 1, 3)
	write(t, d, 2, 4)
	d.Crash([]bool{false, true})
	hold(t, "P5.2", d, 0, 2, 4)
	write(t, d, 0, 5)
	d.Crash(nil)
	d.Barrier()
	hold(t, "P5.2", d, 0, 2, 4)
	write(t, d, 0, 6)
	d.Barrier()
	write(t, d, 0, 7)
	d.Crash([]bool{})
	hold(t, "P5.6", d, 6, 2, 4)
	d.Crash([]bool{true})
	hold(t, "P5.6", d, 6, 2, 4)
}

func TestTrace(t *testing.T) {
	d := disk(t, 2)
	read := func(at int) {
		t.Helper()
		if _, e := d.Read(at); e != api.OK {
			t.Fatalf("P5.1: Read(%d): %v", at, e)
		}
	}
	var want []api.Touch
	then := func(kind, at int, b []byte) {
		t.Helper()
		want = append(want, api.Touch{Kind: kind, At: at, Bytes: b})
		traced(t, "P5.5", d.Trace(), want, d.Touched())
	}
	read(1)
	then(1, 1, fill(0))
	write(t, d, 1, 5)
	then(2, 1, fill(5))
	read(1)
	then(1, 1, fill(5))
	d.Barrier()
	then(3, 0, nil)
	read(1)
	then(1, 1, fill(5))
	write(t, d, 0, 6)
	then(2, 0, fill(6))
	write(t, d, 0, 6)
	then(2, 0, fill(6))

	d.Peek(0)
	d.Peek(7)
	d.Read(-1)
	d.Read(2)
	d.Write(2, fill(1))
	d.Write(0, fill(1)[1:])
	d.Crash([]bool{true})
	tamper(t, d, api.TamperSet, 0, 0, 1, 2, 3)
	tamper(t, d, api.TamperCopy, 0, 1)
	tamper(t, d, api.TamperOld, 0, 1)
	tamper(t, d, api.TamperDrop, 0, 0)
	d.Tamper(api.Tamper{Kind: 5})
	d.Tamper(api.Tamper{Kind: api.TamperSet, At: 2})
	traced(t, "P5.5: what isn't traced", d.Trace(), want, d.Touched())

	tamper(t, d, api.TamperSet, 0, 0, 1, 2, 3)
	read(0)
	then(api.TouchRead, 0, append([]byte{1, 2, 3}, make([]byte, 253)...))
	d.Barrier()
	then(api.TouchBarrier, 0, nil)
	d.Barrier()
	then(api.TouchBarrier, 0, nil)
}

func TestNoDisk(t *testing.T) {
	refused, _ := world.New(0)
	for _, d := range []*world.Disk{nil, refused} {
		for range 2 {
			for _, at := range []int{0, 1, -1, math.MaxInt, math.MinInt} {
				if b, e := d.Read(at); len(b) != 0 || e != api.ErrArg {
					t.Errorf("P5.5: Read(%d): %x, %v", at, b, e)
				}
				if b, e := d.Peek(at); len(b) != 0 || e != api.ErrArg {
					t.Errorf("P5.5: Peek(%d): %x, %v", at, b, e)
				}
				if e := d.Write(at, fill(1)); e != api.ErrArg {
					t.Errorf("P5.5: Write(%d): %v", at, e)
				}
				for kind := range 6 {
					if e := d.Tamper(api.Tamper{Kind: kind, At: at}); e != api.ErrArg {
						t.Errorf("P5.5: Tamper(kind %d, at %d): %v", kind, at, e)
					}
				}
			}
			d.Barrier()
			d.Crash(nil)
			d.Crash([]bool{true, false})
			if d.Blocks() != 0 || d.Waiting() != 0 || d.Touched() != 0 || len(d.Trace()) != 0 {
				t.Errorf("P5.5: Blocks %d, Waiting %d, Touched %d, Trace %v", d.Blocks(), d.Waiting(), d.Touched(), d.Trace())
			}
		}
	}
}

// TestWhatIsHandedInIsNotKept: written over behind the call, it does nothing; and no call changes it, or its spare room.
func TestWhatIsHandedInIsNotKept(t *testing.T) {
	d := disk(t, 3)
	room := run(512, 3)
	b := room[:256]
	if e := d.Write(0, b); e != api.OK {
		t.Fatal(e)
	}
	copy(room, fill(9))
	has(t, "P5.1", d, 0, run(256, 3))
	if !bytes.Equal(room[256:], run(512, 3)[256:]) {
		t.Error("P5.1: Write changed spare room")
	}
	traced(t, "P5.5", d.Trace(), []api.Touch{{Kind: api.TouchWrite, Bytes: run(256, 3)}}, d.Touched())

	keepRoom := []bool{true, false, true, true}
	write(t, d, 1, 1)
	d.Crash(keepRoom[:2])
	if keepRoom[0] != true || keepRoom[1] != false || keepRoom[2] != true || keepRoom[3] != true {
		t.Errorf("P5.2: Crash changed keep: %v", keepRoom)
	}
	keepRoom[1] = true
	has(t, "P5.2", d, 0, run(256, 3))
	has(t, "P5.2", d, 1, fill(0))

	for _, size := range []int{10, 256, 300} {
		room := run(512, 5)
		tamper(t, d, api.TamperSet, 2, 0, room[:size]...)
		if !bytes.Equal(room, run(512, 5)) {
			t.Errorf("P5.3: Tamper changed its bytes, or the room behind them: %x", room)
		}
		clear(room)
		want := fill(0)
		copy(want, run(512, 5)[:size])
		has(t, "P5.3", d, 2, want)
	}
	tamper(t, d, api.TamperOld, 0, 0)
	has(t, "P5.3", d, 0, run(256, 3))
}

// TestWhatIsToldIsNewMemory: written over, and asked for again.
func TestWhatIsToldIsNewMemory(t *testing.T) {
	d := disk(t, 3)
	write(t, d, 0, 1)
	d.Barrier()
	write(t, d, 1, 2)
	want := []byte{1, 2, 0}
	asks := map[string]func(at int) ([]byte, api.Errno){"Read": d.Read, "Peek": d.Peek}
	for name, ask := range asks {
		for at, x := range want {
			first, _ := ask(at)
			second, _ := ask(at)
			_ = append(first, 77)
			clear(first)
			first[0], first[255] = 66, 66
			if !bytes.Equal(second, fill(x)) {
				t.Errorf("P5.1: %s(%d): two answers share memory: %x", name, at, second)
			}
		}
		hold(t, "P5.1: "+name, d, want...)
	}
	before, again := d.Trace(), d.Trace()
	// Each touch's bytes are written over alone, so that two of one trace that share memory would be seen.
	for i, x := range before {
		for j := range x.Bytes {
			x.Bytes[j] = byte(100 + i)
		}
		_ = append(x.Bytes, 1, 2, 3)
	}
	for i, x := range before {
		if len(x.Bytes) > 0 && !bytes.Equal(x.Bytes, fill(byte(100+i))) {
			t.Errorf("P5.5: touch %d shares memory with another one: %x", i, x.Bytes)
		}
		before[i] = api.Touch{Kind: 9, At: 9}
	}
	traced(t, "P5.5", d.Trace(), again, d.Touched())
	hold(t, "P5.5", d, want...)
	tamper(t, d, api.TamperOld, 0, 0)
	tamper(t, d, api.TamperOld, 1, 0)
	hold(t, "P5.5: elder bytes", d, want...)
	tamper(t, d, api.TamperOld, 0, 1)
	tamper(t, d, api.TamperOld, 1, 1)
	hold(t, "P5.5: elder bytes", d, 0, 0, 0)
}

// TestDisksSideBySide: what one is given another one doesn't tell.
func TestDisksSideBySide(t *testing.T) {
	one, other := disk(t, 2), disk(t, 2)
	write(t, one, 0, 1)
	one.Barrier()
	write(t, one, 0, 2)
	tamper(t, one, api.TamperSet, 1, 0, fill(5)...)
	hold(t, "P5.1", one, 2, 5)
	hold(t, "P5.1", other, 0, 0)
	waits(t, "P5.2", other, 0)
	traced(t, "P5.5", other.Trace(), nil, other.Touched())
	tamper(t, other, api.TamperOld, 0, 0)
	hold(t, "P5.3", other, 0, 0)
	hold(t, "P5.1", one, 2, 5)
}
