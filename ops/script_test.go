package ops_test

import (
	"strconv"
	"testing"

	"oubliette/api"
)

// tally counts what came out of operations: by kinds, by codes.
type tally map[int]map[api.Errno]int

// add: an operation was answered.
func (c tally) add(kind int, code api.Errno) {
	if c[kind] == nil {
		c[kind] = map[api.Errno]int{}
	}
	c[kind][code]++
}

// script: operations by chance, one after the other, with a state beside.
func script(t *testing.T, seed int64, slots, steps int, c tally) {
	t.Helper()
	p := begin(t, slots)
	s := &some{Rand: newRand(seed)}
	for k := range steps {
		s.image = p.f.Image()
		o := s.next()
		var code api.Errno
		if k%4 == 0 {
			code = p.do(o).Code
		} else {
			r, changed := p.ask(o)
			code = r.Code
			if changed {
				p.held(opText(o))
			}
		}
		c.add(o.Kind, code)
		for _, n := range s.image.Nodes {
			if s.Intn(len(s.image.Nodes)) == 0 {
				s.gone = append(s.gone, n.Attr.Ref)
			}
		}
	}
}

// TestScripts: long rows of operations on volumes of few slots and of many are answered as by a state, and the volume has its image behind each.
func TestScripts(t *testing.T) {
	for _, slots := range []int{8, 10, 13, 16, 24, 40, 64, 128, 256} {
		t.Run(strconv.Itoa(slots), func(t *testing.T) {
			t.Parallel()
			c := tally{}
			for seed := range 4 {
				script(t, int64(slots*100+seed), slots, 1000, c)
			}
			for kind := 1; kind <= 19; kind++ {
				if c[kind][api.OK] == 0 {
					t.Errorf("operation %d was never done: %v", kind, c[kind])
				}
			}
			if slots < 64 && c[api.OpWrite][api.NoSpace] == 0 {
				t.Errorf("there was room for all that was written")
			}
		})
	}
}
