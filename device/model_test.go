package device_test

import (
	"math/rand"
	"testing"

	"saltus/api"
	"saltus/device"
)

// The tests here hold the calls against the chapter's words told in another way: a sector by itself, with no store that changes.

// stands is what stands in a sector, if of the cache what keep has a bit of had gone over: the last text of it that did, or else the store's.
func stands(d api.Dev, at int, keep uint64) string {
	for i := len(d.Cache) - 1; i >= 0; i-- {
		if d.Cache[i].At == at && keep&(1<<uint(i)) != 0 {
			return d.Cache[i].Data
		}
	}
	return d.Store[at]
}

// stayed are what stands in all sectors.
func stayed(d api.Dev, keep uint64) []string {
	var l []string
	for at := range d.Store {
		l = append(l, stands(d, at, keep))
	}
	return l
}

// P9.2 to P9.4, of each cache of up to five texts in up to three sectors, and each set of them that stays.
func TestEachSmallDevice(t *testing.T) {
	for many := 1; many <= 3; many++ {
		caches(many, 5, nil, func(cache []api.Put) {
			d := api.Dev{Store: sectors(many), Cache: cache}
			if !device.Right(d) {
				t.Fatalf("Right(%v) = false", d)
			}
			for keep := range uint64(1) << len(cache) {
				checkCrash(t, d, keep)
			}
			checkBarrier(t, d)
			for at := -1; at <= many; at++ {
				checkRead(t, d, at)
				checkWrite(t, d, at, "w")
			}
		})
	}
}

// caches has see each cache of up to so many texts, behind some, in sectors below a number. Each third text is an empty one.
func caches(below, many int, ahead []api.Put, see func([]api.Put)) {
	see(ahead)
	if many == 0 {
		return
	}
	for at := range below {
		data := ""
		if many%3 != 0 {
			data = of(many, 50)
		}
		caches(below, many-1, append(ahead[:len(ahead):len(ahead)], api.Put{At: at, Data: data}), see)
	}
}

// checkCrash holds what Crash tells of a device that may be.
func checkCrash(t *testing.T, d api.Dev, keep uint64) {
	t.Helper()
	if got, e := device.Crash(d, keep); !told(got, stayed(d, keep), nil) || e != api.OK {
		t.Errorf("Crash(%v, %b) = %v, %v, want %q", d, keep, got, e, stayed(d, keep))
	}
}

// checkBarrier holds what Barrier tells of a device that may be: a crash that keeps all is one, one that keeps none leaves the store, and all is read as it was.
func checkBarrier(t *testing.T, d api.Dev) {
	t.Helper()
	got, e := device.Barrier(d)
	if !told(got, stayed(d, all), nil) || e != api.OK || !device.Right(got) {
		t.Errorf("Barrier(%v) = %v, %v, want %q", d, got, e, stayed(d, all))
		return
	}
	for at := range d.Store {
		a, e := device.Read(d, at)
		b, f := device.Read(got, at)
		if a != b || e != api.OK || f != api.OK {
			t.Errorf("of %v, sector %v: %q, %v, and behind a barrier %q, %v", d, at, a, e, b, f)
		}
	}
	for _, keep := range []uint64{1<<len(d.Cache) - 1, all} {
		if crashed, e := device.Crash(d, keep); !device.Like(crashed, got) || e != api.OK {
			t.Errorf("Crash(%v, %x) = %v, %v, but Barrier = %v", d, keep, crashed, e, got)
		}
	}
	for _, keep := range []uint64{0, all << len(d.Cache)} {
		if crashed, e := device.Crash(d, keep); !told(crashed, d.Store, nil) || e != api.OK {
			t.Errorf("Crash(%v, %x) = %v, %v, want the store", d, keep, crashed, e)
		}
	}
	if again, e := device.Barrier(got); !device.Like(again, got) || e != api.OK {
		t.Errorf("Barrier(%v) = %v, %v, want it as it is", got, again, e)
	}
}

// P9.2 to P9.4, of calls one behind the other: of each sector stand two texts, the one that is read and the one that a crash may bring back.
func TestCallsOneBehindTheOther(t *testing.T) {
	for seed := range int64(40) {
		r := rand.New(rand.NewSource(seed))
		n := []int{1, 2, 16, 64}[seed%4]
		d, e := device.New(n)
		if e != api.OK {
			t.Fatal(e)
		}
		read, sure := make([]string, n), make([]string, n)
		for range 400 {
			d, read, sure = step(t, r, d, read, sure)
			for at, want := range read {
				if s, e := device.Read(d, at); s != want || e != api.OK {
					t.Fatalf("seed %v: Read of %v = %q, %v, want %q", seed, at, s, e, want)
				}
			}
		}
	}
}

// step is a call, and what is read and what is sure behind it.
func step(t *testing.T, r *rand.Rand, d api.Dev, read, sure []string) (api.Dev, []string, []string) {
	t.Helper()
	switch k := r.Intn(100); {
	case k < 2:
		return crashed(t, d, 0, sure)
	case k < 4:
		return crashed(t, d, all, read)
	case k < 6:
		keep := r.Uint64()
		return crashed(t, d, keep, stayed(d, keep))
	case k < 7:
		got, e := device.Barrier(d)
		if !told(got, read, nil) || e != api.OK {
			t.Fatalf("Barrier(%v) = %v, %v, want %q", d, got, e, read)
		}
		return got, got.Store, got.Store
	}
	at, data := r.Intn(len(read)), of(r.Intn(129), r.Intn(256))
	got, e := device.Write(d, at, data)
	if len(d.Cache) == 60 {
		if !isNothing(got) || e != api.ErrSpace {
			t.Fatalf("Write to a full cache = %v, %v", got, e)
		}
		return crashed(t, d, all, read)
	}
	if e != api.OK {
		t.Fatalf("Write(%v, %v, %v bytes) = %v", d, at, len(data), e)
	}
	read = append([]string(nil), read...)
	read[at] = data
	return got, read, sure
}

// crashed is a device behind a crash, that must be of this store.
func crashed(t *testing.T, d api.Dev, keep uint64, store []string) (api.Dev, []string, []string) {
	t.Helper()
	got, e := device.Crash(d, keep)
	if !told(got, store, nil) || e != api.OK {
		t.Fatalf("Crash(%v, %x) = %v, %v, want %q", d, keep, got, e, store)
	}
	return got, store, store
}
