package entries

import (
	"slices"
	"testing"

	"meetwater/api"
)

func entry(seq int) api.Entry {
	return api.Entry{Key: "k", Seq: seq, Row: []api.Value{{Kind: api.Int, N: seq}}}
}

func sample() api.Buffer {
	return api.Buffer{Limit: 3, Mem: []api.Entry{entry(5), entry(1)}, Runs: [][]api.Entry{{entry(2)}, {entry(0), entry(3)}}}
}

func seqs(l []api.Entry) (out []int) {
	for _, e := range l {
		out = append(out, e.Seq)
	}
	return out
}

func TestParts(t *testing.T) { // memory comes first, then the runs; whoever has enough leaves
	for enough, want := range map[int][]int{1: {5, 1}, 2: {5, 1, 2}, 3: {5, 1, 2, 0, 3}, 9: {5, 1, 2, 0, 3}} {
		var got []int
		n := 0
		for part := range Parts(sample()) {
			got = append(got, seqs(part)...)
			n++
			if n == enough {
				break
			}
		}
		if !slices.Equal(got, want) {
			t.Errorf("%d parts: %v", enough, got)
		}
	}
}

func TestAll(t *testing.T) {
	for enough := 1; enough <= 6; enough++ {
		var got []int
		for e := range All(sample()) {
			got = append(got, e.Seq)
			if len(got) == enough {
				break
			}
		}
		if want := []int{5, 1, 2, 0, 3}; !slices.Equal(got, want[:min(enough, len(want))]) {
			t.Errorf("%d entries: %v", enough, got)
		}
	}
	for e := range All(api.Buffer{}) {
		t.Errorf("%v of nothing", e)
	}
}

func TestSize(t *testing.T) {
	if n, none := Size(sample()), Size(api.Buffer{Limit: 7}); n != 5 || none != 0 {
		t.Errorf("%d, %d", n, none)
	}
}

func TestKept(t *testing.T) { // each where it lay; runs without any go; the limit stays
	b := sample()
	got := Kept(b, func(e api.Entry) bool { return e.Seq != 2 && e.Seq != 5 && e.Seq != 0 })
	if got.Limit != 3 || !slices.Equal(seqs(got.Mem), []int{1}) || len(got.Runs) != 1 || !slices.Equal(seqs(got.Runs[0]), []int{3}) {
		t.Errorf("%v", got)
	}
	all := Kept(b, Always)
	if all.Limit != 3 || Size(all) != 5 || len(all.Runs) != 2 {
		t.Errorf("%v", all)
	}
	all.Mem[0].Row[0].N, all.Runs[1][0].Row[0].N, all.Mem[1], all.Runs[0] = 99, 99, entry(77), nil
	if b.Mem[0].Row[0].N != 5 || b.Runs[1][0].Row[0].N != 0 || b.Mem[1].Seq != 1 || len(b.Runs[0]) != 1 {
		t.Errorf("%v: what was kept is the buffer's own memory", b)
	}
}
