package index

import (
	"math/rand"
	"strconv"
	"testing"

	"heavykeys/api"
	"heavykeys/hash"
)

// checkPlaces says that each key is found from the place of its hash on, over places in use only.
func checkPlaces(t *testing.T, m *Map[int], table []uint64, seed uint64, size int) {
	t.Helper()
	if len(m.places) != size {
		t.Fatalf("%d places, want %d", len(m.places), size)
	}
	used := 0
	for i, p := range m.places {
		if !p.used {
			if p != (place[int]{}) {
				t.Fatalf("the free place %d has %v", i, p)
			}
			continue
		}
		used++
		at := hash.Slot(hash.Key(table, seed, p.key), size)
		for ; at != i; at = (at + 1) % size {
			if !m.places[at].used {
				t.Fatalf("the place %d is free, and %q is at %d", at, p.key, i)
			}
		}
	}
	if used != m.Len() || used >= size {
		t.Fatalf("%d of %d places are in use, Len() = %d", used, size, m.Len())
	}
}

// P10.1 and the chapter's ways: keys are placed by hash.Key with table and seed in open addressing,
// a deletion moves later elements back, so that no place is lost, and the table is never enlarged.
func TestPlaces(t *testing.T) {
	random := rand.New(rand.NewSource(2))
	for _, n := range []int{1, 2, 7, 50} {
		for round := range 30 {
			table, seed := make([]uint64, api.TableSize), random.Uint64()
			for i := range table {
				if round%3 != 0 {
					table[i] = random.Uint64()
				}
			}
			m, e := New[int](n, table, seed)
			if e != api.OK {
				t.Fatalf("New = %d", e)
			}
			size := len(m.places)
			for range 300 {
				key := strconv.Itoa(random.Intn(2*n + 1))
				if random.Intn(2) == 0 {
					m.Put(key, random.Intn(100))
				} else {
					m.Delete(key)
				}
				checkPlaces(t, m, table, seed, size)
			}
		}
	}
}
