package frequent

import (
	"slices"
	"testing"
)

// three returns a table with the keys a, b and c.
func three(t *testing.T) *Table {
	t.Helper()
	x, _ := New(3)
	for i, key := range []string{"c", "a", "b"} {
		if e := x.Add(key, uint64(i+1)); e != 0 {
			t.Fatalf("Add(%q, %d) = %d", key, i+1, e)
		}
	}
	return x
}

// A loop over the keys may end at any of them.
func TestLoopEnds(t *testing.T) {
	x := three(t)
	for _, last := range []string{"a", "b", "c"} {
		var got []string
		for key, own := range x.each {
			got = append(got, key)
			if e, _ := x.Get(key); e.Own != own {
				t.Errorf("the loop has %d for %q, want %d", own, key, e.Own)
			}
			if key == last {
				break
			}
		}
		if want := []string{"a", "b", "c"}[:len(got)]; !slices.Equal(got, want) || got[len(got)-1] != last {
			t.Errorf("the loop up to %q visits %q", last, got)
		}
	}
}

// A loop visits each key once, also if it removes the one it is at, or sets its Own.
func TestLoopChangesTable(t *testing.T) {
	x := three(t)
	var got []string
	for key, own := range x.each {
		got = append(got, key)
		if key == "c" {
			own++
		}
		x.set(key, own-2)
	}
	if want := []string{"a", "b", "c"}; !slices.Equal(got, want) {
		t.Errorf("the loop visits %q, want %q", got, want)
	}
	if e, _ := x.Get("b"); x.Len() != 1 || e.Own != 1 {
		t.Errorf("%v remain, want b with Own 1", x.Entries())
	}
}
