package inode_test

import (
	"math"
	"math/big"
	"math/rand"
	"testing"

	"oubliette/inode"
)

// isLeast: whether n is the least number, not below 0, that times 256 is the size at least.
func isLeast(n, size int) bool {
	bytes := func(n int) *big.Int {
		return new(big.Int).Mul(big.NewInt(int64(n)), big.NewInt(256))
	}
	s := big.NewInt(int64(size))
	return n >= 0 && bytes(n).Cmp(s) >= 0 && (n == 0 || bytes(n-1).Cmp(s) < 0)
}

func TestBlocksExamples(t *testing.T) {
	for _, c := range [][2]int{
		{math.MinInt, 0}, {math.MinInt + 1, 0}, {-257, 0}, {-256, 0}, {-1, 0}, {0, 0}, {1, 1}, {255, 1}, {256, 1}, {257, 2}, {511, 2}, {512, 2}, {513, 3},
		{32767, 128}, {32768, 128}, {32769, 129}, {math.MaxInt - 256, 1<<55 - 1}, {math.MaxInt - 255, 1<<55 - 1}, {math.MaxInt - 254, 1 << 55}, {math.MaxInt, 1 << 55},
	} {
		if n := inode.Blocks(c[0]); n != c[1] {
			t.Fatalf("P11.3: Blocks(%d): %d, not %d", c[0], n, c[1])
		}
	}
}

func TestBlocksLeast(t *testing.T) {
	r := rand.New(rand.NewSource(15))
	for size := -1000; size <= 40000; size++ {
		if n := inode.Blocks(size); !isLeast(n, size) {
			t.Fatalf("P11.3: Blocks(%d): %d isn't the least number", size, n)
		}
	}
	for range 20000 {
		size := int(r.Uint64()) >> r.Intn(64)
		if n := inode.Blocks(size); !isLeast(n, size) {
			t.Fatalf("P11.3: Blocks(%d): %d isn't the least number", size, n)
		}
	}
}
