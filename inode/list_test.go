package inode_test

import (
	"encoding/binary"
	"math"
	"math/rand"
	"testing"

	"oubliette/api"
	"oubliette/inode"
)

// rising: a list no two of whose slots are the same.
func rising() list {
	var l list
	for k := range l {
		l[k] = k + 7
	}
	return l
}

// fullList: a list of slot 255.
func fullList() list {
	var l list
	for k := range l {
		l[k] = 255
	}
	return l
}

func lists() []list {
	return []list{{}, rising(), fullList()}
}

func TestListBytes(t *testing.T) {
	b, e := inode.PackList(rising())
	if e != api.OK || len(b) != 256 {
		t.Fatalf("P11.2: PackList: %x, %v", b, e)
	}
	for k := range 256 {
		want := 0
		if k < 2*112 && k%2 == 0 {
			want = k/2 + 7
		}
		if int(b[k]) != want {
			t.Fatalf("P11.2: byte %d of the list's block is %d, not %d", k, b[k], want)
		}
	}
}

func TestListEdges(t *testing.T) {
	for _, l := range lists() {
		packsList(t, l)
		for k := range l {
			for _, slot := range []int{0, 1, 127, 128, 254, 255} {
				m := l
				m[k] = slot
				packsList(t, m)
			}
		}
	}
}

func TestListWrong(t *testing.T) {
	for _, l := range lists() {
		for k := range l {
			for _, slot := range []int{-1, -255, -256, 256, 257, 65535, 65536, 65537, math.MinInt, math.MaxInt} {
				m := l
				m[k] = slot
				noList(t, "a slot that isn't one", m)
			}
		}
	}
}

func TestListLengths(t *testing.T) {
	for _, l := range lists() {
		b := wantList(l)
		for _, size := range []int{0, 1, 223, 224, 225, 255} {
			noListForm(t, "short", b[:size])
		}
		noListForm(t, "long", append(b[:256:256], 0))
		noListForm(t, "twice", append(b[:256:256], b...))
	}
	noListForm(t, "none", nil)
}

// Each byte of a block at each value: of the list that it should be, or of none.
func TestListEachByte(t *testing.T) {
	for _, l := range lists() {
		b := wantList(l)
		for at := range b {
			for x := range 256 {
				readsList(t, set(b, at, byte(x)))
			}
		}
	}
}

func TestListEachShort(t *testing.T) {
	for _, at := range []int{0, 110, 222, 224, 254} {
		b := wantList(rising())
		for v := range 1 << 16 {
			binary.LittleEndian.PutUint16(b[at:], uint16(v))
			readsList(t, b)
		}
	}
}

func TestListByChance(t *testing.T) {
	r := rand.New(rand.NewSource(14))
	for range 3000 {
		l := listByChance(r)
		packsList(t, l)
		b := wantList(l)
		for range 1 + r.Intn(3) {
			b[r.Intn(256)] = byte(r.Intn(256))
		}
		readsList(t, b)
	}
}

func TestOneListEach(t *testing.T) {
	whose := map[string]list{}
	for k := range api.Listed {
		for slot := range 256 {
			l := rising()
			l[k] = slot
			b, _ := inode.PackList(l)
			if had, ok := whose[string(b)]; ok && had != l {
				t.Fatalf("P11.4: %v and %v have one block, %x", had, l, b)
			}
			whose[string(b)] = l
		}
	}
}
