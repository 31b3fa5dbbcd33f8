package store_test

import (
	"maps"
	"math/rand"
	"slices"
	"strings"
	"testing"

	"saltus/api"
	"saltus/store"
)

// P21.5: disks that are others than those at the last flush.

// diskOf is a disk of some sectors, with nothing in its cache.
func diskOf(sectors []string) api.Dev { return api.Dev{Store: slices.Clone(sectors)} }

// with is a disk with another text in a sector.
func with(d api.Dev, at int, bytes string) api.Dev {
	d = diskOf(d.Store)
	d.Store[at] = bytes
	return d
}

// flip is a text with a bit turned.
func flip(s string, bit int) string {
	b := []byte(s)
	b[bit/8] ^= 1 << (bit % 8)
	return string(b)
}

// changesOf are texts that are nearly another one: a bit of each byte turned, cut at each end, longer, none.
func changesOf(s string, see func(other string)) {
	for i := range len(s) {
		see(flip(s, i*8+i%8))
	}
	for _, other := range []string{"", "x", s + "\x00", s + s, "\x00" + s, strings.Repeat("\x00", len(s))} {
		if other != s && len(other) <= 128 {
			see(other)
		}
	}
	if s != "" {
		see(s[1:])
		see(s[:len(s)-1])
		see(s[:min(len(s), 24)-1])
	}
}

// Each sector of a disk, changed: of the last flush's head and record, that is told by the mount; of a block, when that is loaded; of the other half, and of a free one, it changes nothing.
func TestEachSectorChanged(t *testing.T) {
	t.Parallel()
	for _, n := range []int{16, 20} {
		_, k := layoutOf(n)
		x := full(t, n)
		blockOf := map[int]uint64{}
		for block, b := range x.p.blocks {
			blockOf[b.text.at] = block
		}
		half := int(x.v.Trust.Count % 2)
		for at := range n {
			meta := at == half || at >= 2+half*k && at < 2+half*k+k
			block, is := blockOf[at]
			changesOf(x.v.Dev.Store[at], func(other string) {
				y, e := x.mount(t, with(x.v.Dev, at, other), x.v.Trust, -1)
				if meta {
					refused(t, y, e, api.ErrIntegrity)
					checkNotOn(t, y.v)
					return
				}
				refused(t, y, e, api.OK)
				y.lookAll(t)
				if _, e := store.Load(y.v, block); is && e != api.ErrIntegrity {
					t.Fatalf("sector %v is %q, was %q: Load of %v: %v", at, other, x.v.Dev.Store[at], block, e)
				}
			})
		}
	}
}

// A sector of a block that was put back as it was earlier: of the same block, in the same sector, sealed by the same key.
func TestSectorsPutBack(t *testing.T) {
	ok := good(t)
	x := ok(made(t, slotOf(16), 16, -1))
	x = ok(ok(x.save(t, 3, bytesOf(0))).flush(t))
	first := x.v.Dev
	x = ok(ok(x.save(t, 3, bytesOf(1))).flush(t))
	x = ok(ok(x.save(t, 3, bytesOf(2))).flush(t))
	if string(x.v.Items[0].Val[:8]) != number(256+6) {
		t.Fatalf("the third one is in another sector: %v", x.v.Items)
	}
	y := ok(x.mount(t, with(x.v.Dev, 6, first.Store[6]), x.v.Trust, -1))
	y.look(t, 3)
	if data, e := store.Load(y.v, 3); data != "" || e != api.ErrIntegrity {
		t.Errorf("Load of what was put back = %q, %v, want ErrIntegrity", data, e)
	}
	// And put in its place again, it is read again.
	z := ok(y.mount(t, with(y.v.Dev, 6, x.v.Dev.Store[6]), y.v.Trust, -1))
	if data, e := store.Load(z.v, 3); data != bytesOf(2) || e != api.OK {
		t.Errorf("Load = %q, %v", data, e)
	}
}

// Each two sectors in each other's place.
func TestSectorsInEachOthersPlace(t *testing.T) {
	ok := good(t)
	x := full(t, 20)
	x = ok(ok(x.save(t, 0, bytesOf(60))).flush(t))
	for a := range 20 {
		for b := range a {
			d := with(x.v.Dev, a, x.v.Dev.Store[b])
			d.Store[b] = x.v.Dev.Store[a]
			y, e := x.mount(t, d, x.v.Trust, -1)
			if e != api.ErrIntegrity {
				refused(t, y, e, api.OK)
			}
			y.lookAll(t)
		}
	}
}

// Disks of no head, of one, of both; and of heads that are each other's.
func TestHeads(t *testing.T) {
	x := full(t, 16)
	// The last flush's number is even.
	first, last := x.v.Dev.Store[1], x.v.Dev.Store[0]
	for _, c := range []struct {
		heads [2]string
		want  api.Errno
	}{
		{[2]string{"", ""}, api.ErrIntegrity},
		{[2]string{last, ""}, api.OK},
		{[2]string{"", first}, api.ErrIntegrity},
		{[2]string{last, first}, api.OK},
		{[2]string{first, last}, api.ErrIntegrity},
		{[2]string{last, last}, api.OK},
		{[2]string{first, first}, api.ErrIntegrity},
	} {
		d := with(with(x.v.Dev, 0, c.heads[0]), 1, c.heads[1])
		y, e := x.mount(t, d, x.v.Trust, -1)
		refused(t, y, e, c.want)
		y.lookAll(t)
	}
}

// history are a volume's disks and slots behind each of some flushes, each with a block saved ahead of it.
func history(t *testing.T, n, many int) []pair {
	t.Helper()
	ok := good(t)
	l := []pair{ok(made(t, slotOf(32), n, -1))}
	for i := range many {
		x := ok(l[i].save(t, uint64(i%2), bytesOf(i)))
		if i%4 == 3 {
			x = ok(ok(x.flush(t)).again(t, 0))
			x = ok(x.save(t, uint64(i%2), bytesOf(i+50)))
		}
		l = append(l, ok(x.flush(t)))
	}
	return l
}

// The whole disk put back to each older flush is told; and so is a newer one with an older slot, but where that slot's next flush or its own one still stands there.
func TestOlderDisksAndSlots(t *testing.T) {
	l := history(t, 17, 9)
	for i, disk := range l {
		for j, slot := range l {
			// What the last one knows of texts is what all of them know.
			y, e := l[len(l)-1].mount(t, disk.v.Dev, slot.v.Trust, -1)
			if i < j {
				refused(t, y, e, api.ErrIntegrity)
			}
			if i == j || e == api.OK {
				refused(t, y, e, api.OK)
			}
			y.lookAll(t)
		}
	}
}

// Mixtures of disks: of each sector that of one flush or of another one. A block that is loaded is the newest one.
func TestMixtures(t *testing.T) {
	t.Parallel()
	r := rand.New(rand.NewSource(2))
	l := history(t, 16, 9)
	last := l[len(l)-1]
	want := last.contents(t)
	opened := 0
	for range 1500 {
		d := diskOf(last.v.Dev.Store)
		for range 1 + r.Intn(5) {
			at := r.Intn(16)
			d.Store[at] = l[r.Intn(len(l))].v.Dev.Store[at]
		}
		y, e := last.mount(t, d, last.v.Trust, -1)
		if e == api.ErrIntegrity {
			continue
		}
		refused(t, y, e, api.OK)
		opened++
		y.lookAll(t)
		for block, data := range want {
			if got, e := store.Load(y.v, block); e == api.OK && "1"+got != data {
				t.Fatalf("Load of %v = %q, want %q", block, got, data)
			}
		}
	}
	if opened < 50 {
		t.Errorf("only %v of them were mounted", opened)
	}
}

// The disk of another key, or of another slot of the same key.
func TestDisksOfAnotherKey(t *testing.T) {
	x := full(t, 16)
	for _, key := range []string{strings.Repeat("b", 16), flip(x.v.Trust.Key, 0), flip(x.v.Trust.Key, 127), slotOf(32).Key, x.v.Trust.Key[:15] + "x"} {
		slot := x.v.Trust
		slot.Key = key
		y, e := x.mount(t, x.v.Dev, slot, -1)
		refused(t, y, e, api.ErrIntegrity)
	}
	// And blocks of another key's disk, under this one's heads and records.
	slot := slotOf(16)
	slot.Key = flip(slot.Key, 3)
	z := good(t)(made(t, slot, 16, -1))
	z = good(t)(z.save(t, 0, bytesOf(0)))
	d := diskOf(x.v.Dev.Store)
	d.Store[6] = z.v.Dev.Cache[0].Data
	y := good(t)(x.mount(t, d, x.v.Trust, -1))
	y.lookAll(t)
	if data, e := store.Load(y.v, 0); data != "" || e != api.ErrIntegrity {
		t.Errorf("Load of another key's block: %q, %v, want ErrIntegrity", data, e)
	}
}

// A flush that was not told as done, and was not shown to the next mount, does not come back: neither to a mount behind that, nor behind more flushes.
func TestAFlushThatWasHidden(t *testing.T) {
	ok := good(t)
	x := changed(t, full(t, 16))
	_, k := layoutOf(16)
	hidden, e := x.withFuel(k + 4).flush(t)
	refused(t, hidden, e, api.ErrState)
	if len(hidden.v.Dev.Cache) != 0 {
		t.Fatal("the head is not on the disk")
	}
	shown, e := hidden.mount(t, hidden.v.Dev, hidden.v.Trust, -1)
	if refused(t, shown, e, api.OK); shown.v.Trust.Count != x.v.Trust.Count+1 {
		t.Fatalf("the flush was not found: a slot %v", told(shown.v.Trust))
	}
	// It is hidden: the disk is as it was ahead of its head.
	old := ok(hidden.mount(t, with(hidden.v.Dev, 1, x.v.Dev.Store[1]), hidden.v.Trust, -1))
	if old.v.Trust.Count != x.v.Trust.Count {
		t.Fatalf("mounted with a slot %v, want Count %x", told(old.v.Trust), x.v.Trust.Count)
	}
	y := ok(old.mount(t, hidden.v.Dev, old.v.Trust, -1))
	if !maps.Equal(y.contents(t), old.contents(t)) {
		t.Errorf("mounted behind it: %v, want %v", y.contents(t), old.contents(t))
	}
	for range 3 {
		old = ok(old.flush(t))
		y, e = old.mount(t, hidden.v.Dev, old.v.Trust, -1)
		refused(t, y, e, api.ErrIntegrity)
	}
}

// A disk that is longer or shorter is the same, as long as its records are where they were, and its blocks are in sectors that it has, and not more than its quota.
func TestDisksOfOtherSizes(t *testing.T) {
	t.Parallel()
	ok := good(t)
	for _, n := range []int{16, 17, 19, 20, 44, 63} {
		for _, m := range []int{16, 17, 18, 19, 20, 21, 43, 44, 45, 62, 63, 64} {
			for _, x := range []pair{ok(made(t, slotOf(16), n, -1)), full(t, n), ok(changed(t, full(t, n)).flush(t))} {
				sectors := append(slices.Clone(x.v.Dev.Store), make([]string, 64)...)[:m]
				y, e := x.mount(t, diskOf(sectors), x.v.Trust, -1)
				_, k := layoutOf(n)
				q, l := layoutOf(m)
				want := api.OK
				if k != l || len(x.v.Items) > q {
					want = api.ErrIntegrity
				}
				for _, b := range x.p.blocks {
					if b.state == api.SData && b.text.at >= m {
						want = api.ErrIntegrity
					}
				}
				refused(t, y, e, want)
				y.lookAll(t)
				if e == api.OK {
					y.goOn(t)
				}
			}
		}
	}
}

// What is in a disk's cache is mounted as it is read, and stays there.
func TestMountOfACache(t *testing.T) {
	ok := good(t)
	x := full(t, 16)
	y := changed(t, x)
	for _, z := range []pair{y, ok(y.flush(t))} {
		m := ok(z.mount(t, z.v.Dev, z.v.Trust, -1))
		if len(m.v.Dev.Cache) != len(z.v.Dev.Cache) {
			t.Errorf("%v in the cache, were %v", len(m.v.Dev.Cache), len(z.v.Dev.Cache))
		}
		m.lookAll(t)
		m.goOn(t)
	}
	// A cache of all that a disk has.
	d := api.Dev{Store: make([]string, 16)}
	for at, bytes := range x.v.Dev.Store {
		d.Cache = append(d.Cache, api.Put{At: at, Data: "earlier"}, api.Put{At: at, Data: bytes})
	}
	m := ok(x.mount(t, d, x.v.Trust, -1))
	m.lookAll(t)
	m.goOn(t)
}
