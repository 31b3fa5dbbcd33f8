package store_test

import (
	"encoding/binary"
	"fmt"
	"maps"
	"math"
	"reflect"
	"slices"
	"strings"
	"testing"

	"saltus/api"
	"saltus/store"
)

// A volume is told here in another way: a picture has its blocks by their numbers, and a disk of texts that are known by what they were sealed of, not by their bytes. These are learnt where a text is first seen on a disk that a call answers. What a call would do that the power is not there for is left out, act by act.
type picture struct {
	store  []*text
	cache  []put
	slot   api.Trust
	state  int
	blocks map[uint64]block
	wait   []int
	seq    uint64
	fuel   int
	known  map[string]*text
}

// text is a sector's text: what it was sealed of, and its bytes, once they are known.
type text struct {
	bytes string
	key   string
	kind  string
	at    int
	gen   uint64
	data  string
	flush *flush
	index int
}

type put struct {
	at   int
	text *text
}

type block struct {
	state int
	text  *text
}

// flush is what was flushed with a number.
type flush struct {
	number uint64
	blocks map[uint64]block
}

// layoutOf is the quota and the sectors of a record, by trying each quota.
func layoutOf(n int) (q, k int) {
	for try := range 17 {
		size := int(math.Ceil((34*float64(try) + 10) / 64))
		if 2+2*size+try+8 <= n {
			q, k = try, size
		}
	}
	return q, k
}

func number(n uint64) string { return string(binary.LittleEndian.AppendUint64(nil, n)) }

// nextOf is the number of a slot's next flush.
func nextOf(slot api.Trust) uint64 {
	if slot.Count/(1<<32) == slot.Boots {
		return slot.Count + 1
	}
	next := slot.Boots * (1 << 32)
	for next++; next%2 == slot.Count%2; next++ {
	}
	return next
}

func (p picture) copy() picture {
	p.store = slices.Clone(p.store)
	p.cache = slices.Clone(p.cache)
	p.blocks = maps.Clone(p.blocks)
	p.wait = slices.Clone(p.wait)
	p.known = maps.Clone(p.known)
	return p
}

// why is what a call tells that was let be.
func (p *picture) why() api.Errno {
	return map[int]api.Errno{0: api.ErrState, 1: api.OK, 2: api.ErrIntegrity}[p.state]
}

// act does one thing, if the power is still there, and there for it.
func (p *picture) act(do func()) {
	switch {
	case p.state != 1:
	case p.fuel == 0:
		p.state = 0
	default:
		if p.fuel > 0 {
			p.fuel--
		}
		do()
	}
}

func (p *picture) barrier() {
	p.act(func() {
		for _, w := range p.cache {
			p.store[w.at] = w.text
		}
		p.cache = nil
	})
}

// seal writes a text to its sector with the next generation.
func (p *picture) seal(x *text) {
	if len(p.cache) == 60 {
		p.barrier()
	}
	p.act(func() {
		p.seq++
		x.gen, x.key = p.slot.Boots*(1<<32)+p.seq, p.slot.Key
		p.cache = append(p.cache, put{x.at, x})
	})
}

func (p *picture) read(at int) *text {
	is := p.store[at]
	for _, w := range p.cache {
		if w.at == at {
			is = w.text
		}
	}
	return is
}

// used are the sectors that are taken.
func (p *picture) used() map[int]bool {
	_, k := layoutOf(len(p.store))
	used := map[int]bool{}
	for at := range 2 + 2*k {
		used[at] = true
	}
	for _, b := range p.blocks {
		if b.state == 1 {
			used[b.text.at] = true
		}
	}
	for _, at := range p.wait {
		used[at] = true
	}
	return used
}

// free is the first sector that is not taken, or -1.
func (p *picture) free() int {
	used := p.used()
	for at := range p.store {
		if !used[at] {
			return at
		}
	}
	return -1
}

// full tells whether there is no room for a block.
func (p *picture) full(n uint64) bool {
	q, _ := layoutOf(len(p.store))
	_, is := p.blocks[n]
	return !is && len(p.blocks) >= q
}

func (p *picture) doFlush() api.Errno {
	_, k := layoutOf(len(p.store))
	f := &flush{number: nextOf(p.slot), blocks: maps.Clone(p.blocks)}
	half := int(f.number % 2)
	p.barrier()
	for i := range k {
		p.seal(&text{kind: "record", at: 2 + half*k + i, flush: f, index: i})
	}
	p.barrier()
	p.seal(&text{kind: "head", at: half, flush: f})
	p.barrier()
	p.act(func() {
		p.slot.Count = f.number
		p.wait = nil
	})
	return p.why()
}

func (p *picture) doSave(n uint64, data string) api.Errno {
	switch {
	case p.state != 1:
		return api.ErrState
	case n >= 1<<59:
		return api.ErrRange
	case len(data) != 32:
		return api.ErrSize
	case p.full(n) || p.free() < 0:
		return api.ErrSpace
	}
	x := &text{kind: "block " + number(n), at: p.free(), data: data}
	p.seal(x)
	if p.state == 1 {
		p.waits(n)
		p.blocks[n] = block{1, x}
	}
	return p.why()
}

// waits has the sector of a block wait, if it has one.
func (p *picture) waits(n uint64) {
	if b := p.blocks[n]; b.state == 1 {
		p.wait = append(p.wait, b.text.at)
	}
}

func (p *picture) doFree(n uint64, state int) api.Errno {
	switch {
	case p.state != 1:
		return api.ErrState
	case n >= 1<<59:
		return api.ErrRange
	case state != 0 && state != 2:
		return api.ErrArg
	case state == 2 && p.full(n):
		return api.ErrSpace
	}
	p.waits(n)
	delete(p.blocks, n)
	if state == 2 {
		p.blocks[n] = block{state: 2}
	}
	return api.OK
}

func (p *picture) load(n uint64) (string, api.Errno) {
	switch {
	case p.state != 1:
		return "", api.ErrState
	case n >= 1<<59:
		return "", api.ErrRange
	}
	b := p.blocks[n]
	if b.state != 1 {
		return strings.Repeat("\x00", 32), api.OK
	}
	if p.read(b.text.at) != b.text {
		return "", api.ErrIntegrity
	}
	return b.text.data, api.OK
}

// flushed is the flush of a number that stands on the disk, or nil.
func (p *picture) flushed(number uint64) *flush {
	half := int(number % 2)
	h := p.read(half)
	if !p.opens(h, "head", half) || h.flush.number != number {
		return nil
	}
	q, k := layoutOf(len(p.store))
	for i := range k {
		at := 2 + half*k + i
		if x := p.read(at); !p.opens(x, "record", at) || x.flush != h.flush || x.index != i {
			return nil
		}
	}
	for _, b := range h.flush.blocks {
		if b.state == 1 && (b.text.at < 2+2*k || b.text.at >= len(p.store)) {
			return nil
		}
	}
	if len(h.flush.blocks) > q {
		return nil
	}
	return h.flush
}

// opens tells whether a text opens in a sector as one of a kind.
func (p *picture) opens(x *text, kind string, at int) bool {
	return x != nil && x.kind == kind && x.at == at && x.key == p.slot.Key
}

// doMount mounts a picture's disk, with its slot.
func (p *picture) doMount(fuel int) api.Errno {
	next, last := nextOf(p.slot), p.slot.Count
	p.state, p.blocks, p.wait, p.seq, p.fuel = 1, map[uint64]block{}, nil, 0, fuel
	p.act(func() { p.slot.Boots++ })
	if p.state != 1 {
		return p.why()
	}
	f := p.flushed(next)
	if f != nil {
		p.act(func() { p.slot.Count = next })
	} else {
		f = p.flushed(last)
	}
	switch {
	case f == nil:
		p.state = 2
	case p.state == 1:
		p.blocks = maps.Clone(f.blocks)
	}
	return p.why()
}

// formatted is a picture behind Format.
func formatted(slot api.Trust, n, fuel int) (picture, api.Errno) {
	p := picture{store: make([]*text, n), slot: slot, state: 1, blocks: map[uint64]block{}, fuel: fuel, known: map[string]*text{}}
	p.act(func() { p.slot.Boots++ })
	return p, p.doFlush()
}

// crash is what stays of the disk.
func (p *picture) crash(keep uint64) {
	for i, w := range p.cache {
		if keep&(1<<i) != 0 {
			p.store[w.at] = w.text
		}
	}
	p.cache = nil
}

// disk has a picture's disk be one, whose texts it may know.
func (p *picture) disk(d api.Dev) {
	find := func(bytes string) *text {
		if bytes == "" {
			return nil
		}
		if p.known[bytes] == nil {
			p.known[bytes] = &text{bytes: bytes}
		}
		return p.known[bytes]
	}
	p.store, p.cache = nil, nil
	for _, bytes := range d.Store {
		p.store = append(p.store, find(bytes))
	}
	for _, w := range d.Cache {
		p.cache = append(p.cache, put{w.At, find(w.Data)})
	}
}

// items are a picture's blocks as a list.
func (p *picture) items() []api.Item {
	var l []api.Item
	for _, n := range slices.Sorted(maps.Keys(p.blocks)) {
		val := number(2*256) + number(0)
		if b := p.blocks[n]; b.state == 1 {
			val = number(256+uint64(b.text.at)) + number(b.text.gen)
		}
		l = append(l, api.Item{Key: n, Val: val})
	}
	return l
}

// bits are what is taken, as a map of chapter 12.
func (p *picture) bits() api.Bits {
	m := api.Bits{N: len(p.store), Low: []uint64{0}}
	used := p.used()
	for i := range 64 {
		if i >= m.N || used[i] {
			m.Low[0] += 1 << i
		}
	}
	if m.Low[0] == math.MaxUint64 {
		m.Full = 1
	}
	return m
}

// learn holds a text's bytes against what it should be, and has them be known.
func (p *picture) learn(t *testing.T, x *text, at int, bytes string) {
	t.Helper()
	switch {
	case x == nil:
		if bytes != "" {
			t.Fatalf("sector %v is %q, want none", at, bytes)
		}
		return
	case x.bytes != "":
		if bytes != x.bytes {
			t.Fatalf("sector %v is %q, want %q", at, bytes, x.bytes)
		}
		return
	}
	if len(bytes) < 24 || len(bytes) > 88 || bytes[:8] != number(x.gen) || x.data != "" && len(bytes) != 24+32 {
		t.Fatalf("sector %v is %q, want a %v of generation %v", at, bytes, x.kind, x.gen)
	}
	if y := p.known[bytes]; y != nil {
		t.Fatalf("sector %v is %q, as sector %v of generation %v", at, bytes, y.at, y.gen)
	}
	for _, y := range p.known {
		if x.at == y.at && y.bytes[:min(8, len(y.bytes))] == bytes[:8] {
			t.Fatalf("sector %v has %q and %q of one generation", at, bytes, y.bytes)
		}
	}
	x.bytes = bytes
	p.known[bytes] = x
}

// check holds a volume against a picture: all that it has.
func (p *picture) check(t *testing.T, v api.Vol) {
	t.Helper()
	if v.State != p.state || v.Trust != p.slot || v.Seq != p.seq || v.Fuel != p.fuel {
		t.Fatalf("state %v, slot %v, seq %v, fuel %v, want %v, %v, %v, %v", v.State, told(v.Trust), v.Seq, v.Fuel, p.state, told(p.slot), p.seq, p.fuel)
	}
	if want := p.items(); !slices.Equal(v.Items, want) {
		t.Fatalf("items %v, want %v", v.Items, want)
	}
	if want := p.bits(); !reflect.DeepEqual(v.Used, want) {
		t.Fatalf("used %b, want %b", v.Used, want)
	}
	if !slices.Equal(v.Wait, p.wait) {
		t.Fatalf("wait %v, want %v", v.Wait, p.wait)
	}
	p.checkDisk(t, v.Dev)
}

// checkDisk holds a disk against a picture's.
func (p *picture) checkDisk(t *testing.T, d api.Dev) {
	t.Helper()
	if len(d.Store) != len(p.store) || len(d.Cache) != len(p.cache) {
		t.Fatalf("%v sectors, %v in the cache, want %v, %v", len(d.Store), len(d.Cache), len(p.store), len(p.cache))
	}
	for at, bytes := range d.Store {
		p.learn(t, p.store[at], at, bytes)
	}
	for i, w := range d.Cache {
		if w.At != p.cache[i].at {
			t.Fatalf("cache's %v is of sector %v, want %v", i, w.At, p.cache[i].at)
		}
		p.learn(t, p.cache[i].text, w.At, w.Data)
	}
}

// told is a slot in words.
func told(slot api.Trust) string {
	return fmt.Sprintf("of Count %x, Boots %v, a key of %v bytes", slot.Count, slot.Boots, len(slot.Key))
}

// sentinel is what stands behind the end of lists that are handed in.
const sentinel = "behind the end"

// roomy is a list with room behind its end, in which something stands.
func roomy[T any](l []T, behind ...T) []T {
	return slices.Concat(l, behind)[:len(l)]
}

// roomyDisk is a disk with lists of its own that have room behind their ends.
func roomyDisk(d api.Dev) api.Dev {
	return api.Dev{
		Store: roomy(d.Store, sentinel, sentinel),
		Cache: roomy(d.Cache, api.Put{At: 7, Data: sentinel}, api.Put{At: 8, Data: sentinel}),
	}
}

// roomyVol is a volume with such lists.
func roomyVol(v api.Vol) api.Vol {
	v.Dev = roomyDisk(v.Dev)
	v.Items = roomy(v.Items, api.Item{Key: 7, Val: sentinel}, api.Item{Key: 8, Val: sentinel})
	v.Used.Low = roomy(v.Used.Low, 7, 8)
	v.Wait = roomy(v.Wait, 7, 8)
	return v
}

// all is a volume's lists with all that stands behind their ends.
func all(v api.Vol) api.Vol {
	v.Dev.Store = v.Dev.Store[:cap(v.Dev.Store)]
	v.Dev.Cache = v.Dev.Cache[:cap(v.Dev.Cache)]
	v.Items = v.Items[:cap(v.Items)]
	v.Used.Low = v.Used.Low[:cap(v.Used.Low)]
	v.Wait = v.Wait[:cap(v.Wait)]
	return v
}

// deep is a volume of its own memory, with all that stands behind its lists' ends.
func deep(v api.Vol) api.Vol {
	v = all(v)
	v.Dev.Store = slices.Clone(v.Dev.Store)
	v.Dev.Cache = slices.Clone(v.Dev.Cache)
	v.Items = slices.Clone(v.Items)
	v.Used.Low = slices.Clone(v.Used.Low)
	v.Wait = slices.Clone(v.Wait)
	return v
}

// scribble writes over all lists of a volume, and behind their ends.
func scribble(v api.Vol) {
	v = all(v)
	for i := range v.Dev.Store {
		v.Dev.Store[i] = "scribbled"
	}
	for i := range v.Dev.Cache {
		v.Dev.Cache[i] = api.Put{At: 1, Data: "scribbled"}
	}
	for i := range v.Items {
		v.Items[i] = api.Item{Key: 1, Val: "scribbled"}
	}
	for i := range v.Used.Low {
		v.Used.Low[i] = 1234
	}
	for i := range v.Wait {
		v.Wait[i] = 1234
	}
}

// called is what a call tells of a volume, that must not be changed, neither by the call nor by what is written over an answer; and called again it tells the same.
func called(t *testing.T, v api.Vol, call func(v api.Vol) (api.Vol, api.Errno)) (api.Vol, api.Errno) {
	t.Helper()
	v = roomyVol(v)
	was := deep(v)
	first, e := call(v)
	second, f := call(v)
	if e != f || !same(first, second) {
		t.Fatalf("%v, %v, and then %v, %v", first, e, second, f)
	}
	kept := deep(second)
	scribble(first)
	if !reflect.DeepEqual(all(v), was) {
		t.Fatalf("the argument is %v, was %v", all(v), was)
	}
	if !reflect.DeepEqual(all(second), kept) {
		t.Fatalf("what is written over an answer changes another one")
	}
	if e == api.OK || e == api.ErrIntegrity || e == api.ErrState && second.Dev.Store != nil {
		return second, e
	}
	if !reflect.DeepEqual(second, api.Vol{}) {
		t.Fatalf("beside %v: %v", e, second)
	}
	return second, e
}

// same tells whether all of two volumes is the same; nil lists are empty ones.
func same(a, b api.Vol) bool {
	return slices.Equal(a.Dev.Store, b.Dev.Store) && slices.Equal(a.Dev.Cache, b.Dev.Cache) && slices.Equal(a.Items, b.Items) && slices.Equal(a.Wait, b.Wait) &&
		a.Used.N == b.Used.N && slices.Equal(a.Used.Low, b.Used.Low) && a.Used.Full == b.Used.Full &&
		a.Trust == b.Trust && a.State == b.State && a.Seq == b.Seq && a.Fuel == b.Fuel
}

// pair is a volume and its picture.
type pair struct {
	v api.Vol
	p picture
}

// next is a pair behind a call; or the pair that it was, where the call tells no volume.
func (x pair) next(t *testing.T, want api.Errno, p picture, call func(v api.Vol) (api.Vol, api.Errno)) (pair, api.Errno) {
	t.Helper()
	v, e := called(t, x.v, call)
	if e != want {
		t.Fatalf("%v, want %v", e, want)
	}
	if e != api.OK && x.p.state == p.state {
		if !reflect.DeepEqual(v, api.Vol{}) {
			t.Fatalf("beside %v: %v", e, v)
		}
		return x, e
	}
	p.check(t, v)
	return pair{v, p}, e
}

func (x pair) save(t *testing.T, n uint64, data string) (pair, api.Errno) {
	t.Helper()
	p := x.p.copy()
	return x.next(t, p.doSave(n, data), p, func(v api.Vol) (api.Vol, api.Errno) { return store.Save(v, n, data) })
}

func (x pair) free(t *testing.T, n uint64, state int) (pair, api.Errno) {
	t.Helper()
	p := x.p.copy()
	return x.next(t, p.doFree(n, state), p, func(v api.Vol) (api.Vol, api.Errno) { return store.Free(v, n, state) })
}

func (x pair) flush(t *testing.T) (pair, api.Errno) {
	t.Helper()
	p := x.p.copy()
	e := api.ErrState
	if p.state == 1 {
		e = p.doFlush()
	}
	return x.next(t, e, p, store.Flush)
}

// look holds Load and Block of a block.
func (x pair) look(t *testing.T, n uint64) {
	t.Helper()
	v := roomyVol(x.v)
	was := deep(v)
	data, e := store.Load(v, n)
	if want, why := x.p.load(n); data != want || e != why {
		t.Fatalf("Load of %v: %q, %v, want %q, %v", n, data, e, want, why)
	}
	state, f := store.Block(v, n)
	want, why := x.p.blocks[n].state, e
	if e != api.OK && e != api.ErrIntegrity {
		want = 0
	} else {
		why = api.OK
	}
	if state != want || f != why {
		t.Fatalf("Block of %v: %v, %v, want %v, %v", n, state, f, want, why)
	}
	if !reflect.DeepEqual(all(v), was) {
		t.Fatalf("the argument is %v, was %v", all(v), was)
	}
}

// lookAll holds Load and Block of each block that is no hole, of one beside it, and of the edges.
func (x pair) lookAll(t *testing.T) {
	t.Helper()
	for n := range x.p.blocks {
		x.look(t, n)
		x.look(t, n+1)
	}
	for _, n := range []uint64{0, 1<<59 - 1, 1 << 59, math.MaxUint64} {
		x.look(t, n)
	}
}

// mount is a pair behind Mount of a disk, with a slot.
func (x pair) mount(t *testing.T, d api.Dev, slot api.Trust, fuel int) (pair, api.Errno) {
	t.Helper()
	p := x.p.copy()
	p.disk(d)
	p.slot = slot
	want := p.doMount(fuel)
	v, e := called(t, api.Vol{Dev: d}, func(v api.Vol) (api.Vol, api.Errno) { return store.Mount(v.Dev, slot, fuel) })
	if e != want {
		t.Fatalf("Mount: %v, want %v", e, want)
	}
	p.check(t, v)
	return pair{v, p}, e
}

// made is a pair behind Format.
func made(t *testing.T, slot api.Trust, n, fuel int) (pair, api.Errno) {
	t.Helper()
	p, want := formatted(slot, n, fuel)
	v, e := called(t, api.Vol{}, func(api.Vol) (api.Vol, api.Errno) { return store.Format(slot, n, fuel) })
	if e != want {
		t.Fatalf("Format: %v, want %v", e, want)
	}
	p.check(t, v)
	return pair{v, p}, e
}
