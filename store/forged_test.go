package store

import (
	"slices"
	"strings"
	"testing"

	"saltus/api"
	"saltus/codec"
	"saltus/device"
	"saltus/journal"
	"saltus/label"
	"saltus/seal"
	"saltus/trust"
)

// What is sealed in heads and records, opened by the slot's keys; and flushes that are sealed with these keys, but are not as a flush is: no disk could have them, but a mount must not take them.

var slot = api.Trust{Count: 5<<32 + 6, Boots: 5, Key: "a key of a slot "}

// forged is what a flush's head and record are sealed of.
type forged struct {
	items []api.Item
	label string
	texts []string
	chain string
	head  head
	text  string
	more  string
	kinds [2]int
	at    uint64
	gens  []uint64
}

// forge is a disk of 20 sectors that has the flush of a number, but for what a change makes of it.
func forge(d api.Dev, number uint64, l []api.Item, change func(f *forged)) api.Dev {
	_, k, _ := Layout(len(d.Store))
	root, _ := label.Root(keyOf(slot, heightsKey), l)
	f := forged{items: l, label: root, head: head{number: number, label: root, first: 77}, kinds: [2]int{api.SealHead, api.SealMeta}}
	for i := range k {
		f.gens = append(f.gens, 77+uint64(i))
	}
	for _, x := range l {
		f.texts = append(f.texts, codec.Number(x.Key)+x.Val)
	}
	f.texts = append(f.texts, "")
	f.chain = root
	f.text = f.head.text()
	if change != nil {
		change(&f)
	}
	log, _ := journal.Write(keyOf(slot, recordsKey), f.chain, f.texts)
	store := slices.Clone(d.Store)
	for i, piece := range pieces(log+f.more, k) {
		at := 2 + int(number%2)*k + i
		store[at], _ = seal.Seal(keyOf(slot, sectorsKey), f.kinds[1], at, f.gens[i], f.at, piece)
	}
	at := int(number % 2)
	store[at], _ = seal.Seal(keyOf(slot, sectorsKey), f.kinds[0], at, 99, f.at, f.text)
	return api.Dev{Store: store}
}

// item is a block's item: its state times 256 and its sector, and its generation.
func item(block, both, gen uint64) api.Item {
	return api.Item{Key: block, Val: codec.Number(both) + codec.Number(gen)}
}

// lists are those that a disk of 20 sectors may have: 4 blocks, in sectors 8 to 19.
func lists() [][]api.Item {
	return [][]api.Item{
		nil,
		{item(0, 256+8, 1)},
		{item(api.Blocks-1, 256+19, 0)},
		{item(3, 512, 0)},
		{item(0, 512, 0), item(1, 512, 0), item(2, 512, 0), item(3, 512, 0)},
		{item(0, 256+19, 1<<64-1), item(1, 256+18, 1), item(2, 512, 0), item(1<<40, 256+8, 1)},
	}
}

// wrongLists are those that it may not have.
func wrongLists() [][]api.Item {
	return [][]api.Item{
		{item(0, 256+7, 1)},
		{item(0, 256, 1)},
		{item(0, 256+1, 1)},
		{item(0, 256+20, 1)},
		{item(0, 256+63, 1)},
		{item(0, 256+64, 1)},
		{item(0, 256+255, 1)},
		{item(0, 8, 1)},
		{item(0, 0, 0)},
		{item(0, 0, 1)},
		{item(0, 512+8, 0)},
		{item(0, 512, 1)},
		{item(0, 512+8, 1)},
		{item(0, 3*256, 0)},
		{item(0, 3*256+8, 1)},
		{item(0, 257*256+8, 1)},
		{item(0, 1<<32*256+256+8, 1)},
		{item(0, 1<<63+256+8, 1)},
		{item(api.Blocks, 256+8, 1)},
		{item(api.Blocks, 512, 0)},
		{item(1<<64-1, 512, 0)},
		{item(1, 256+8, 1), item(2, 256+8, 2)},
		{item(1, 256+8, 1), item(2, 256+8, 1)},
		{item(1, 256+8, 1), item(2, 512, 0), item(3, 256+9, 2), item(4, 256+8, 2)},
		{item(0, 512, 0), item(1, 512, 0), item(2, 512, 0), item(3, 512, 0), item(4, 512, 0)},
		{item(0, 256+8, 0), item(1, 256+9, 0), item(2, 256+10, 0), item(3, 256+11, 0), item(4, 256+12, 0)},
	}
}

// notLists are no lists of chapter 16.
func notLists() [][]api.Item {
	return [][]api.Item{
		{item(1, 512, 0), item(1, 512, 0)},
		{item(2, 512, 0), item(1, 512, 0)},
	}
}

// empty is a disk of 20 sectors with nothing.
func empty() api.Dev {
	d, _ := device.New(20)
	return d
}

// checkMount holds what is mounted with the slot: a flush of that number, and so these blocks.
func checkMount(t *testing.T, what string, d api.Dev, number uint64, want []api.Item) {
	t.Helper()
	v, e := Mount(d, slot, -1)
	if e != api.OK || v.State != api.VOn || v.Trust.Count != number || v.Trust.Boots != 6 || !slices.Equal(v.Items, want) || v.Seq != 0 || len(v.Wait) != 0 {
		t.Fatalf("%v: mounted %v, %v, want %v", what, v, e, want)
	}
}

// checkNoMount holds that the disk lies.
func checkNoMount(t *testing.T, what string, d api.Dev) {
	t.Helper()
	v, e := Mount(d, slot, -1)
	if e != api.ErrIntegrity || v.State != api.VFailed || v.Trust.Count != slot.Count || v.Trust.Boots != 6 || len(v.Items) != 0 {
		t.Fatalf("%v: mounted %v, %v, want ErrIntegrity", what, v, e)
	}
}

// The flush of the slot's number is mounted, and so is that of the next one, ahead of it.
func TestForgedRight(t *testing.T) {
	t.Parallel()
	for _, l := range lists() {
		last := forge(empty(), slot.Count, l, nil)
		checkMount(t, "last", last, slot.Count, l)
		checkMount(t, "next", forge(empty(), slot.Count+1, l, nil), slot.Count+1, l)
		for _, other := range lists() {
			checkMount(t, "both", forge(last, slot.Count+1, other, nil), slot.Count+1, other)
		}
	}
	for _, number := range []uint64{0, 1, slot.Count - 1, slot.Count + 2, slot.Count + 1<<32, 6<<32 + 1, 6<<32 + 2} {
		checkNoMount(t, "another number", forge(empty(), number, nil, nil))
	}
}

// checkWrong holds that a wrong flush is not mounted: not that of the slot's number, and not that of the next one, but then the one of the slot's is.
func checkWrong(t *testing.T, what string, l []api.Item, change func(f *forged)) {
	t.Helper()
	checkNoMount(t, what+", last", forge(empty(), slot.Count, l, change))
	checkNoMount(t, what+", next", forge(empty(), slot.Count+1, l, change))
	checkNoMount(t, what+", both", forge(forge(empty(), slot.Count, l, change), slot.Count+1, l, change))
	for _, other := range lists() {
		last := forge(empty(), slot.Count, other, nil)
		checkMount(t, what+", next behind a right last", forge(last, slot.Count+1, l, change), slot.Count, other)
		next := forge(empty(), slot.Count+1, other, nil)
		checkMount(t, what+", last ahead of a right next", forge(next, slot.Count, l, change), slot.Count+1, other)
	}
}

func TestForgedBlocks(t *testing.T) {
	t.Parallel()
	for _, l := range wrongLists() {
		checkWrong(t, "blocks", l, nil)
	}
	for _, l := range notLists() {
		checkWrong(t, "no list", l, nil)
		checkWrong(t, "no list", l, func(f *forged) {
			root, _ := label.Root(keyOf(slot, heightsKey), f.items[:1])
			f.chain, f.head.label = root, root
			f.text = f.head.text()
		})
	}
}

func TestForgedHeads(t *testing.T) {
	t.Parallel()
	for name, change := range map[string]func(f *forged){
		"number more":      func(f *forged) { f.head.number++; f.text = f.head.text() },
		"number 2 more":    func(f *forged) { f.head.number += 2; f.text = f.head.text() },
		"number 2 less":    func(f *forged) { f.head.number -= 2; f.text = f.head.text() },
		"number of before": func(f *forged) { f.head.number -= 1 << 32; f.text = f.head.text() },
		"number 0":         func(f *forged) { f.head.number = 0; f.text = f.head.text() },
		"first more":       func(f *forged) { f.head.first++; f.text = f.head.text() },
		"first less":       func(f *forged) { f.head.first--; f.text = f.head.text() },
		"first 0":          func(f *forged) { f.head.first = 0; f.text = f.head.text() },
		"label":            func(f *forged) { f.head.label = strings.Repeat("x", 32); f.text = f.head.text() },
		"label and chain": func(f *forged) {
			f.head.label = strings.Repeat("x", 32)
			f.text, f.chain = f.head.text(), f.head.label
		},
		"label cut": func(f *forged) {
			f.head.label = f.head.label[:31]
			f.text, f.chain = f.head.text(), f.head.label
		},
		"no label":    func(f *forged) { f.head.label = ""; f.text, f.chain = f.head.text(), "" },
		"chain":       func(f *forged) { f.chain = strings.Repeat("x", 32) },
		"no text":     func(f *forged) { f.text = "" },
		"text less":   func(f *forged) { f.text = f.text[:49] },
		"text more":   func(f *forged) { f.text += "\x00" },
		"text, other": func(f *forged) { f.text = strings.Repeat("\x00", 50) },
		"head's kind": func(f *forged) { f.kinds[0] = api.SealMeta },
		"head's data": func(f *forged) { f.kinds[0] = api.SealData },
	} {
		for _, l := range lists() {
			checkWrong(t, name, l, change)
		}
	}
}

func TestForgedRecords(t *testing.T) {
	t.Parallel()
	for name, change := range map[string]func(f *forged){
		"first's generation":       func(f *forged) { f.gens[0]++ },
		"last's generation":        func(f *forged) { f.gens[len(f.gens)-1]++ },
		"a generation less":        func(f *forged) { f.gens[1]-- },
		"one generation":           func(f *forged) { f.gens[1], f.gens[2] = f.gens[0], f.gens[0] },
		"generations turned":       func(f *forged) { slices.Reverse(f.gens) },
		"generations of before":    func(f *forged) { f.gens[2] -= 1 << 32 },
		"record's kind":            func(f *forged) { f.kinds[1] = api.SealHead },
		"record's data":            func(f *forged) { f.kinds[1] = api.SealData },
		"both kinds":               func(f *forged) { f.kinds = [2]int{api.SealMeta, api.SealHead} },
		"no commit":                func(f *forged) { f.texts = f.texts[:len(f.texts)-1] },
		"two commits":              func(f *forged) { f.texts = append(f.texts, "") },
		"a commit ahead":           func(f *forged) { f.texts = slices.Insert(f.texts, 0, "") },
		"nothing":                  func(f *forged) { f.texts = nil },
		"text behind commit":       func(f *forged) { f.texts = append(f.texts, "x") },
		"one item more":            func(f *forged) { f.texts = slices.Insert(f.texts, 0, codec.Number(1<<50)+item(0, 512, 0).Val) },
		"an item that is too long": func(f *forged) { f.texts = slices.Insert(f.texts, 0, strings.Repeat("\x00", 25)) },
		"an item that is short":    func(f *forged) { f.texts = slices.Insert(f.texts, 0, strings.Repeat("\x00", 23)) },
		"a small item":             func(f *forged) { f.texts = slices.Insert(f.texts, 0, "x") },
	} {
		for _, l := range lists() {
			if len(l) < 4 {
				checkWrong(t, name, l, change)
			}
		}
	}
	for _, l := range lists() {
		for i := range l {
			checkWrong(t, "an item less", l, func(f *forged) { f.texts = slices.Delete(f.texts, i, i+1) })
			checkWrong(t, "an item changed", l, func(f *forged) { f.texts[i] = string([]byte{f.texts[i][0] ^ 1}) + f.texts[i][1:] })
			checkWrong(t, "an item cut", l, func(f *forged) { f.texts[i] = f.texts[i][:23] })
			checkWrong(t, "an item, longer", l, func(f *forged) { f.texts[i] += "\x00" })
		}
	}
}

// A sector of a record that is another one's, though its generation and its kind are right, is not opened; nor is one that is left out.
func TestForgedSectors(t *testing.T) {
	for _, l := range lists() {
		d := forge(empty(), slot.Count, l, nil)
		for _, at := range []int{0, 2, 3, 4} {
			other := api.Dev{Store: slices.Clone(d.Store)}
			other.Store[at] = ""
			checkNoMount(t, "none", other)
			other.Store[at] = d.Store[2+(at+2)%3]
			checkNoMount(t, "another", other)
		}
		for _, at := range []int{1, 5, 6, 7} {
			other := api.Dev{Store: slices.Clone(d.Store)}
			other.Store[at] = "none"
			checkMount(t, "of the other half", other, slot.Count, l)
		}
	}
}

// What a flush seals is what the chapter says, of each list: its number, its label, and the first one of the generations, that go on one by one; and all of the list, whole.
func TestWhatIsSealed(t *testing.T) {
	for _, n := range []int{16, 20, 64} {
		q, k, _ := Layout(n)
		begun := slot
		v, e := Format(begun, n, -1)
		for i := range q + 1 {
			if e != api.OK {
				t.Fatal(e)
			}
			checkSealed(t, v, uint64(6<<32+i*(k+2)+1), k)
			if i < q {
				v, _ = Save(v, uint64(i), strings.Repeat("x", 32))
				v, e = Flush(v)
			}
		}
		v, _ = Mount(v.Dev, v.Trust, -1)
		checkSealed(t, v, uint64(6<<32+q*(k+2)+1), k)
	}
}

func checkSealed(t *testing.T, v api.Vol, first uint64, k int) {
	t.Helper()
	key, _ := trust.Derive(slot, sectorsKey)
	number := v.Trust.Count
	gen, text, e := seal.Open(key, api.SealHead, int(number%2), 0, v.Dev.Store[number%2])
	fields, _, f := codec.Split(text, "ntn")
	heights, _ := trust.Derive(slot, heightsKey)
	root, _ := label.Root(heights, v.Items)
	if e != api.OK || f != api.OK || fields[0].N != number || fields[1].S != root || fields[2].N != first || gen != first+uint64(k) {
		t.Fatalf("the head is %q, of generation %v, %v", text, gen, e)
	}
	log := ""
	for i := range k {
		at := 2 + int(number%2)*k + i
		gen, piece, e := seal.Open(key, api.SealMeta, at, 0, v.Dev.Store[at])
		if e != api.OK || gen != first+uint64(i) {
			t.Fatalf("the record's sector %v is of generation %v, %v, want %v", i, gen, e, first+uint64(i))
		}
		log += piece
	}
	chain, _ := trust.Derive(slot, recordsKey)
	texts, end, _ := journal.Scan(chain, root, log)
	if end != len(log) || len(log) != 34*len(v.Items)+10 || len(texts) != len(v.Items)+1 || texts[len(v.Items)] != "" {
		t.Fatalf("the record is %q", texts)
	}
	for i, x := range v.Items {
		if texts[i] != codec.Number(x.Key)+x.Val {
			t.Fatalf("the record's %v is %q, want %v", i, texts[i], x)
		}
	}
}

// The keys of one slot are others than each other, and than the slot's.
func TestKeys(t *testing.T) {
	keys := map[string]bool{slot.Key: true}
	for _, name := range []string{sectorsKey, heightsKey, recordsKey} {
		keys[keyOf(slot, name)] = true
	}
	if len(keys) != 4 {
		t.Errorf("%v keys", len(keys))
	}
}

// A panic that is not the power's, and not the disk's, goes on.
func TestOtherPanicsGoOn(t *testing.T) {
	defer func() {
		if why := recover(); why != "other" {
			t.Errorf("recovered %v", why)
		}
	}()
	done(api.Vol{}, func(*api.Vol) { panic("other") })
	t.Error("it did not go on")
}
