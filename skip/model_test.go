package skip_test

import (
	"crypto/hmac"
	"crypto/sha256"
	"encoding/binary"
	"fmt"
	"maps"
	"math"
	"math/bits"
	"math/rand"
	"slices"
	"strings"
	"testing"

	"saltus/api"
	"saltus/skip"
)

// The tests here hold the calls against the chapter's words told in another way: a list as a map of what stands for each number; heights by the library's HMAC; what is found by asking each item; and hops from their end on.

// model is what stands for each number.
type model map[uint64]string

// list is the list of a model.
func (m model) list() []api.Item {
	var l []api.Item
	for _, n := range slices.Sorted(maps.Keys(m)) {
		l = append(l, api.Item{Key: n, Val: m[n]})
	}
	return l
}

// of is the model of a list; nothing tells whether that may be.
func of(l []api.Item) model {
	m := model{}
	for _, x := range l {
		m[x.Key] = x.Val
	}
	return m
}

// mayBe tells whether a list may be: it is the one of its model, and no more than that asks.
func mayBe(l []api.Item) bool {
	for _, x := range l {
		if len(x.Val) > 64 {
			return false
		}
	}
	return len(l) <= 64 && same(l, of(l).list())
}

// same tells whether two lists are the same, one item after the other.
func same(a, b []api.Item) bool {
	if len(a) != len(b) {
		return false
	}
	for i := range a {
		if a[i].Key != b[i].Key || a[i].Val != b[i].Val {
			return false
		}
	}
	return true
}

// height is what a number's height should be.
func height(key string, n uint64) int {
	h := hmac.New(sha256.New, []byte(key))
	h.Write(binary.LittleEndian.AppendUint64(nil, n))
	word := binary.LittleEndian.Uint64(h.Sum(nil))
	return min(bits.TrailingZeros64(word), 7) + 1
}

// found is the place of the last item whose number is not more than one; -1, if there is none.
func found(l []api.Item, k uint64) int {
	place := -1
	for at, x := range l {
		if x.Key <= k {
			place = at
		}
	}
	return place
}

// hopsTo are the hops to a place: the last one goes there, on its item's highest level, and from there backwards one goes to each item that is as high as all behind it, or higher.
func hopsTo(key string, l []api.Item, place int) []api.Hop {
	var hops []api.Hop
	highest := 0
	for at := place; at >= 0; at-- {
		if h := height(key, l[at].Key); h >= highest {
			highest = h
			hops = append(hops, api.Hop{Level: h - 1, At: at})
		}
	}
	slices.Reverse(hops)
	return hops
}

// show is a list as text, for what a test tells; a long one by its beginning.
func show(l []api.Item) string {
	s := fmt.Sprintf("%v items %v", len(l), l)
	return s[:min(len(s), 400)]
}

// checkFind holds P16.3 of a list that may be; and P16.4: what is found, and how the hops go.
func checkFind(t *testing.T, key string, l []api.Item, k uint64) {
	t.Helper()
	place := found(l, k)
	at, hops, e := skip.Find(key, l, k)
	if place < 0 {
		if at != 0 || len(hops) != 0 || e != api.ErrNone {
			t.Errorf("Find of %v in %v = %v, %v, %v, want ErrNone", k, show(l), at, hops, e)
		}
		return
	}
	if want := hopsTo(key, l, place); at != place || !slices.Equal(hops, want) || e != api.OK {
		t.Errorf("Find by %.20q of %v in %v = %v, %v, %v, want %v, %v", key, k, show(l), at, hops, e, place, want)
	}
	checkHops(t, hops, at)
}

// checkHops holds that hops are on the levels 7 to 0 and never go up, go on, and end at a place.
func checkHops(t *testing.T, hops []api.Hop, place int) {
	t.Helper()
	ahead := api.Hop{Level: 7, At: -1}
	for _, hop := range hops {
		if hop.Level < 0 || hop.Level > ahead.Level || hop.At <= ahead.At {
			t.Errorf("hops %v", hops)
		}
		ahead = hop
	}
	if ahead.At != place {
		t.Errorf("hops %v, but %v was found", hops, place)
	}
}

// near are the numbers at which a list's answers may change: its items', those beside them, and the first and the last ones.
func near(l []api.Item) []uint64 {
	numbers := []uint64{0, 1, math.MaxUint64 - 1, math.MaxUint64}
	for _, x := range l {
		numbers = append(numbers, x.Key-1, x.Key, x.Key+1)
	}
	slices.Sort(numbers)
	return slices.Compact(numbers)
}

// checkFinds holds Find by a key in a list that may be, of all numbers that are near.
func checkFinds(t *testing.T, key string, l []api.Item) {
	t.Helper()
	for _, k := range near(l) {
		checkFind(t, key, l, k)
	}
}

// checkPut holds P16.2's Put to a list that may be; and P16.4: what was put is found.
func checkPut(t *testing.T, l []api.Item, x api.Item) {
	t.Helper()
	m := of(l)
	_, is := m[x.Key]
	m[x.Key] = x.Val
	want, why := m.list(), api.OK
	switch {
	case len(x.Val) > 64:
		want, why = nil, api.ErrSize
	case len(l) == 64 && !is:
		want, why = nil, api.ErrSpace
	}
	got, e := skip.Put(l, x)
	if !same(got, want) || e != why {
		t.Errorf("Put of %v to %v = %v, %v, want %v, %v", show([]api.Item{x}), show(l), show(got), e, show(want), why)
	}
	if e != api.OK {
		return
	}
	if !skip.Right(got) {
		t.Errorf("Put of %v to %v = %v, which may not be", show([]api.Item{x}), show(l), show(got))
	}
	if at, _, e := skip.Find("a key", got, x.Key); e != api.OK || at >= len(got) || got[at] != x {
		t.Errorf("Put of %v to %v, and then it is found at %v, %v", show([]api.Item{x}), show(l), at, e)
	}
}

// checkDrop holds P16.2's Drop from a list that may be; and P16.4: what was dropped is not found, and, put again, makes the list that was.
func checkDrop(t *testing.T, l []api.Item, k uint64) {
	t.Helper()
	m := of(l)
	val, is := m[k]
	delete(m, k)
	got, e := skip.Drop(l, k)
	if !is {
		if len(got) != 0 || e != api.ErrNone {
			t.Errorf("Drop of %v from %v = %v, %v, want ErrNone", k, show(l), show(got), e)
		}
		return
	}
	if !same(got, m.list()) || e != api.OK || !skip.Right(got) {
		t.Errorf("Drop of %v from %v = %v, %v, want %v", k, show(l), show(got), e, show(m.list()))
	}
	if at, _, e := skip.Find("a key", got, k); e == api.OK && got[at].Key == k {
		t.Errorf("Drop of %v from %v, and then it is found at %v", k, show(l), at)
	}
	if again, e := skip.Put(got, api.Item{Key: k, Val: val}); !same(again, l) || e != api.OK {
		t.Errorf("Drop of %v from %v, and Put of it = %v, %v", k, show(l), show(again), e)
	}
}

// checkIsArg holds that each call of a list that may not be tells ErrArg, whatever else is wrong, and nothing beside it.
func checkIsArg(t *testing.T, l []api.Item) {
	t.Helper()
	if skip.Right(l) {
		t.Errorf("Right(%v) = true", show(l))
	}
	numbers := near(l[:min(len(l), 3)])
	for _, k := range numbers {
		for _, val := range []string{"", text(64), text(65)} {
			if got, e := skip.Put(l, api.Item{Key: k, Val: val}); len(got) != 0 || e != api.ErrArg {
				t.Errorf("Put of %v to %v = %v, %v, want ErrArg", k, show(l), show(got), e)
			}
		}
		if got, e := skip.Drop(l, k); len(got) != 0 || e != api.ErrArg {
			t.Errorf("Drop of %v from %v = %v, %v, want ErrArg", k, show(l), show(got), e)
		}
		for _, key := range []string{"", "a key"} {
			if at, hops, e := skip.Find(key, l, k); at != 0 || len(hops) != 0 || e != api.ErrArg {
				t.Errorf("Find of %v in %v = %v, %v, %v, want ErrArg", k, show(l), at, hops, e)
			}
		}
	}
}

// checkList holds all calls of a list, whether it may be or not.
func checkList(t *testing.T, key string, l []api.Item) {
	t.Helper()
	if !mayBe(l) {
		checkIsArg(t, l)
		return
	}
	if !skip.Right(l) {
		t.Errorf("Right(%v) = false", show(l))
	}
	checkFinds(t, key, l)
	for _, k := range near(l) {
		checkDrop(t, l, k)
		for _, val := range []string{"", "p", text(64), text(65)} {
			checkPut(t, l, api.Item{Key: k, Val: val})
		}
	}
	if !skip.Like(l, l) || !skip.Like(l, slices.Clone(l)) {
		t.Errorf("Like of %v and itself = false", show(l))
	}
}

// text is a text of so many bytes.
func text(many int) string { return strings.Repeat("t", many) }

// eachList has see each list of up to so many of some items, in each order, each of them as often as may be.
func eachList(items []api.Item, many int, ahead []api.Item, see func(l []api.Item)) {
	see(ahead)
	if many == 0 {
		return
	}
	for _, x := range items {
		eachList(items, many-1, append(slices.Clone(ahead), x), see)
	}
}

// small are items of five numbers: of the least height by "a key", of others, and of the greatest, neither of them the first number.
var small = []api.Item{{Key: 0, Val: "a"}, {Key: 3, Val: ""}, {Key: 9, Val: "b"}, {Key: 130, Val: "c"}, {Key: 146, Val: "d"}}

// Each list of up to three of five items, those that may be, and those that may not, since their numbers fall or stand twice.
func TestEachSmallList(t *testing.T) {
	eachList(small, 3, nil, func(l []api.Item) {
		if got := skip.Right(l); got != mayBe(l) {
			t.Errorf("Right(%v) = %v", show(l), got)
		}
		checkList(t, "a key", l)
	})
}

// Each list of four of them, and of five, that may be.
func TestEachGreaterList(t *testing.T) {
	for kept := range 1 << len(small) {
		var l []api.Item
		for at, x := range small {
			if kept>>at&1 == 1 {
				l = append(l, x)
			}
		}
		checkList(t, "a key", l)
		checkFinds(t, "another key", l)
		checkFinds(t, "", l)
	}
}

// Like tells of each two of all small lists what holding them item by item tells; whether they may be is not asked.
func TestLikeOfEachTwoSmallLists(t *testing.T) {
	var all [][]api.Item
	eachList([]api.Item{{Key: 1}, {Key: 1, Val: "a"}, {Key: 2}, {Key: 2, Val: "a"}}, 3, nil, func(l []api.Item) {
		all = append(all, l)
	})
	for _, a := range all {
		for _, b := range all {
			if got := skip.Like(a, b); got != same(a, b) {
				t.Fatalf("Like(%v, %v) = %v", show(a), show(b), got)
			}
		}
	}
}

// randomList is a list that may be, of numbers of all sizes.
func randomList(r *rand.Rand, many int) []api.Item {
	m := model{}
	for len(m) < many {
		m[r.Uint64()>>r.Intn(64)] = text(r.Intn(65))
	}
	return m.list()
}

// Lists at random, some of them changed so that they may not be.
func TestListsAtRandom(t *testing.T) {
	for seed := range int64(40) {
		r := rand.New(rand.NewSource(seed))
		key := string(byte(seed)) + text(r.Intn(100))
		l := randomList(r, r.Intn(12))
		checkList(t, key, l)
		if len(l) > 1 {
			i, j := r.Intn(len(l)), r.Intn(len(l))
			l[i], l[j] = l[j], l[i]
			checkList(t, key, l)
			l[i] = l[j]
			checkList(t, key, l)
		}
	}
	r := rand.New(rand.NewSource(40))
	for _, many := range []int{63, 64} {
		checkList(t, "a key", randomList(r, many))
	}
}

// P16.4: over long runs of Put and Drop, through full and empty lists, each list is the model's.
func TestPutAndDropOneBehindTheOther(t *testing.T) {
	for seed := range int64(20) {
		r := rand.New(rand.NewSource(seed))
		m, l := model{}, []api.Item(nil)
		for range 400 {
			puts := r.Intn(40)
			for range r.Intn(40) {
				x := api.Item{Key: uint64(r.Intn(80)), Val: text(r.Intn(66))}
				if puts > 20 {
					m, l = put(t, m, l, x)
				} else {
					m, l = drop(t, m, l, x.Key)
				}
				if !same(l, m.list()) || !skip.Right(l) {
					t.Fatalf("seed %v: %v, want %v", seed, show(l), show(m.list()))
				}
			}
		}
	}
}

// put is a model and its list with an item more, where there is room and its Val is not too long.
func put(t *testing.T, m model, l []api.Item, x api.Item) (model, []api.Item) {
	t.Helper()
	got, e := skip.Put(l, x)
	_, is := m[x.Key]
	switch {
	case len(x.Val) > 64:
		if e != api.ErrSize {
			t.Fatalf("Put of %v bytes = %v, want ErrSize", len(x.Val), e)
		}
		return m, l
	case len(m) == 64 && !is:
		if e != api.ErrSpace {
			t.Fatalf("Put to 64 items = %v, want ErrSpace", e)
		}
		return m, l
	}
	if e != api.OK {
		t.Fatalf("Put to %v items = %v", len(m), e)
	}
	m[x.Key] = x.Val
	return m, got
}

// drop is a model and its list without a number's item, where there is one.
func drop(t *testing.T, m model, l []api.Item, k uint64) (model, []api.Item) {
	t.Helper()
	got, e := skip.Drop(l, k)
	if _, is := m[k]; !is {
		if e != api.ErrNone {
			t.Fatalf("Drop of none = %v, want ErrNone", e)
		}
		return m, l
	}
	if e != api.OK {
		t.Fatalf("Drop from %v items = %v", len(m), e)
	}
	delete(m, k)
	return m, got
}

// P16.4: lists do not hang on the order in which items were put.
func TestOrderOfPuts(t *testing.T) {
	r := rand.New(rand.NewSource(1))
	for _, many := range []int{2, 3, 10, 64} {
		want := randomList(r, many)
		for range 20 {
			var l []api.Item
			for _, i := range r.Perm(many) {
				var e api.Errno
				if l, e = skip.Put(l, want[i]); e != api.OK {
					t.Fatal(e)
				}
			}
			if !skip.Like(l, want) || !same(l, want) {
				t.Fatalf("%v, want %v", show(l), show(want))
			}
		}
	}
}

// P1: no call panics at any arguments, and all are as told here.
func FuzzSkip(f *testing.F) {
	f.Add("", "", uint64(0), "", uint64(0))
	f.Add("a key", "\x03\x05\x09", uint64(6), "a", uint64(1))
	f.Add("another key", "\x09\x05", uint64(9), "a", uint64(1<<63))
	f.Add("a key", "\x00\x82\x92", uint64(146), text(65), uint64(1))
	f.Add("\xff", text(65), uint64(1<<64-1), text(64), uint64(1<<32))
	f.Fuzz(func(t *testing.T, key, bytes string, k uint64, val string, times uint64) {
		l := make([]api.Item, 0, len(bytes))
		for i := range len(bytes) {
			l = append(l, api.Item{Key: uint64(bytes[i]) * times, Val: val[:min(len(val), i)]})
		}
		if got := skip.Right(l); got != mayBe(l) {
			t.Errorf("Right(%v) = %v", show(l), got)
		}
		if !mayBe(l) {
			checkIsArg(t, l)
			return
		}
		checkFind(t, key, l, k)
		checkPut(t, l, api.Item{Key: k, Val: val})
		checkDrop(t, l, k)
	})
}
