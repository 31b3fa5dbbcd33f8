package proof_test

import (
	"crypto/hmac"
	"crypto/sha256"
	"encoding/binary"
	"fmt"
	"math/bits"
	"math/rand"
	"slices"
	"strings"
	"testing"

	"saltus/api"
	"saltus/label"
	"saltus/proof"
	"saltus/skip"
)

// The tests here hold the calls against the chapter's words told in another way: sums and heights by the library's SHA-256 and HMAC; labels from their own level down; and a group by the places whose labels are joined, without a row.

// head is the place that stands for the head.
const head = -1

// sum is what a text's sum should be.
func sum(s string) string {
	b := sha256.Sum256([]byte(s))
	return string(b[:])
}

// number are a number's bytes.
func number(n uint64) string { return string(binary.LittleEndian.AppendUint64(nil, n)) }

// leafText is the text whose sum should be an item's label.
func leafText(x api.Item) string {
	return "\x00" + number(x.Key) + string([]byte{byte(len(x.Val)), byte(len(x.Val) >> 8)}) + x.Val
}

// height is what a number's height should be.
func height(key string, n uint64) int {
	h := hmac.New(sha256.New, []byte(key))
	h.Write([]byte(number(n)))
	return min(bits.TrailingZeros64(binary.LittleEndian.Uint64(h.Sum(nil))), 7) + 1
}

// heightsOf are what a list's items' heights should be.
func heightsOf(key string, l []api.Item) []int {
	var heights []int
	for _, x := range l {
		heights = append(heights, height(key, x.Key))
	}
	return heights
}

// joinedOf are the places whose labels of a level are joined to a place's label of the next level: the place, and those behind it that are as high as that, up to the first one that is higher.
func joinedOf(heights []int, level, place int) []int {
	places := []int{place}
	for at := place + 1; at < len(heights) && heights[at] <= level+1; at++ {
		if heights[at] == level+1 {
			places = append(places, at)
		}
	}
	return places
}

// textOf is the text whose sum should be a place's label on a level.
func textOf(l []api.Item, heights []int, level, place int) string {
	switch {
	case level == 0 && place == head:
		return "\x01"
	case level == 0:
		return leafText(l[place])
	}
	text := "\x02" + number(uint64(level))
	for _, at := range joinedOf(heights, level-1, place) {
		text += labelOf(l, heights, level-1, at)
	}
	return text
}

// labelOf is what the label of the head, or of an item's place, should be on a level.
func labelOf(l []api.Item, heights []int, level, place int) string {
	return sum(textOf(l, heights, level, place))
}

// rootOf is what a list's label should be.
func rootOf(key string, l []api.Item) string { return labelOf(l, heightsOf(key, l), 8, head) }

// summedFor are the texts that should be summed for a list's label: each place's, on each level that it stands above.
func summedFor(key string, l []api.Item) map[string]bool {
	heights := heightsOf(key, l)
	texts := map[string]bool{}
	for level := range 9 {
		texts[textOf(l, heights, level, head)] = true
		for place := range l {
			if heights[place] > level {
				texts[textOf(l, heights, level, place)] = true
			}
		}
	}
	return texts
}

// upTo is the last place, up to one, that stands above a level.
func upTo(heights []int, at, level int) int {
	for at > head && heights[at] <= level {
		at--
	}
	return at
}

// proofOf is what the proof of the item at a place should be.
func proofOf(key string, l []api.Item, place int) api.Proof {
	heights := heightsOf(key, l)
	var p api.Proof
	for level := range 8 {
		own := upTo(heights, place, level)
		var before, after []string
		for _, at := range joinedOf(heights, level, upTo(heights, place, level+1)) {
			switch s := labelOf(l, heights, level, at); {
			case at < own:
				before = append(before, s)
			case at > own:
				after = append(after, s)
			}
		}
		p.Before = append(p.Before, before)
		p.After = append(p.After, after)
	}
	return p
}

// mayBe tells whether a list may be: no two items, wherever they stand, fall or are of one number.
func mayBe(l []api.Item) bool {
	for i, x := range l {
		if len(x.Val) > 64 || i >= 64 {
			return false
		}
		for _, y := range l[:i] {
			if y.Key >= x.Key {
				return false
			}
		}
	}
	return true
}

// mayBeProof tells whether a proof may be: its rows are counted, and each of its labels.
func mayBeProof(p api.Proof) bool {
	for _, rows := range [][][]string{p.Before, p.After} {
		right := 0
		for _, row := range rows {
			for at, s := range row {
				if at == 64 || len(s) != 32 {
					return false
				}
			}
			right++
		}
		if right != 8 {
			return false
		}
	}
	return true
}

// stepsOf are what the steps of an item and a proof that may be should be.
func stepsOf(x api.Item, p api.Proof) []string {
	text := leafText(x)
	steps := []string{text}
	for i, before := range p.Before {
		labels := append(slices.Clone(before), sum(text))
		labels = append(labels, p.After[i]...)
		text = "\x02" + number(uint64(i+1))
		for _, s := range labels {
			text += s
		}
		steps = append(steps, text)
	}
	return steps
}

// written is all of a proof as one text, another one for each other proof: how many rows and labels, and how long each, stands ahead of them.
func written(p api.Proof) string {
	var b strings.Builder
	for _, rows := range [][][]string{p.Before, p.After} {
		fmt.Fprintf(&b, "%v rows:", len(rows))
		for _, row := range rows {
			fmt.Fprintf(&b, " %v labels", len(row))
			for _, s := range row {
				fmt.Fprintf(&b, " %v:%x", len(s), s)
			}
		}
	}
	return b.String()
}

// show is a list as text, for what a test tells; a long one by its beginning.
func show(l []api.Item) string {
	s := fmt.Sprintf("%v items %v", len(l), l)
	return s[:min(len(s), 400)]
}

// told are texts as text, by the first bytes of each.
func told(texts ...string) string {
	var b strings.Builder
	for _, s := range texts {
		fmt.Fprintf(&b, "%.8x of %v bytes, ", s, len(s))
	}
	return b.String()
}

// toldProof is a proof as text, by the first bytes of each label; a long one by its beginning.
func toldProof(p api.Proof) string {
	var b strings.Builder
	for _, rows := range [][][]string{p.Before, p.After} {
		fmt.Fprintf(&b, "%v rows: ", len(rows))
		for _, row := range rows {
			fmt.Fprintf(&b, "[%v] ", told(row...))
		}
	}
	s := b.String()
	return s[:min(len(s), 1000)]
}

// isNone tells whether a proof has nothing.
func isNone(p api.Proof) bool { return len(p.Before) == 0 && len(p.After) == 0 }

// checkNoProof holds that Prove tells an error, and no proof beside it.
func checkNoProof(t *testing.T, key string, l []api.Item, k uint64, why api.Errno) {
	t.Helper()
	if p, e := proof.Prove(key, l, k); !isNone(p) || e != why {
		t.Errorf("Prove by %.20q of %v in %v = %v, %v, want %v", key, k, show(l), toldProof(p), e, why)
	}
}

// checkProve holds P18.1's Prove, of a number that is in a list that may be, or not, or of a list that may not be; and P18.3, where there is a proof.
func checkProve(t *testing.T, key string, l []api.Item, k uint64) {
	t.Helper()
	if !mayBe(l) {
		checkNoProof(t, key, l, k, api.ErrArg)
		return
	}
	at := slices.IndexFunc(l, func(x api.Item) bool { return x.Key == k })
	if at < 0 {
		checkNoProof(t, key, l, k, api.ErrNone)
		return
	}
	want := proofOf(key, l, at)
	got, e := proof.Prove(key, l, k)
	if written(got) != written(want) || e != api.OK {
		t.Errorf("Prove by %.20q of %v in %v = %v, %v, want %v", key, k, show(l), toldProof(got), e, toldProof(want))
		return
	}
	if !proof.Like(got, want) || !proof.Like(want, got) {
		t.Errorf("Prove by %.20q of %v in %v: not Like the model's proof", key, k, show(l))
	}
	checkShown(t, key, l, l[at], got)
}

// checkShown holds P18.3's first half: a number's proof shows its item, of the list's label, and each step is summed for that label.
func checkShown(t *testing.T, key string, l []api.Item, x api.Item, p api.Proof) {
	t.Helper()
	root, e := label.Root(key, l)
	if root != rootOf(key, l) || e != api.OK {
		t.Fatalf("Root by %.20q of %v = %v, %v", key, show(l), told(root), e)
	}
	if is, e := proof.Check(root, x, p); !is || e != api.OK {
		t.Errorf("Check by %.20q of %v in %v = %v, %v, want true", key, x.Key, show(l), is, e)
	}
	checkSteps(t, x, p)
	steps, _ := proof.Steps(x, p)
	summed := summedFor(key, l)
	for i, s := range steps {
		if !summed[s] {
			t.Errorf("step %v by %.20q of %v in %v: %.40x is not summed for the list's label", i, key, x.Key, show(l), s)
		}
	}
}

// checkNoSteps holds that Steps and Check tell an error, and nothing beside it, whatever the label is.
func checkNoSteps(t *testing.T, x api.Item, p api.Proof, why api.Errno, roots ...string) {
	t.Helper()
	if steps, e := proof.Steps(x, p); len(steps) != 0 || e != why {
		t.Errorf("Steps of %v and %v bytes, by %v = %v, %v, want %v", x.Key, len(x.Val), toldProof(p), told(steps...), e, why)
	}
	for _, root := range append(roots, "", sum("a"), text(31), text(32), text(33)) {
		if is, e := proof.Check(root, x, p); is || e != why {
			t.Errorf("Check of %v and %v bytes, by %v = %v, %v, want %v", x.Key, len(x.Val), toldProof(p), is, e, why)
		}
	}
}

// checkSteps holds P18.2 of an item and a proof, whether they may be or not.
func checkSteps(t *testing.T, x api.Item, p api.Proof) {
	t.Helper()
	if len(x.Val) > 64 {
		checkNoSteps(t, x, p, api.ErrSize)
		return
	}
	if !mayBeProof(p) {
		checkNoSteps(t, x, p, api.ErrArg)
		return
	}
	want := stepsOf(x, p)
	got, e := proof.Steps(x, p)
	if !slices.Equal(got, want) || len(got) != 9 || e != api.OK {
		t.Errorf("Steps of %v and %q, by %v = %v, %v, want %v", x.Key, x.Val, toldProof(p), told(got...), e, told(want...))
		return
	}
	root := sum(want[8])
	if is, e := proof.Check(root, x, p); !is || e != api.OK {
		t.Errorf("Check of %v and %q, by %v = %v, %v, want true", x.Key, x.Val, toldProof(p), is, e)
	}
	others := []string{"", root[:31], root[1:], root + "\x00", "\x00" + root, root + root, sum(root), want[8], text(32)}
	for _, s := range want[:8] {
		others = append(others, sum(s))
	}
	for bit := 0; bit < 256; bit += 51 {
		others = append(others, flipped(root, bit))
	}
	for _, other := range others {
		if is, e := proof.Check(other, x, p); is || e != api.OK {
			t.Errorf("Check of %v and %q, by %v, of another label, %v = %v, %v, want false", x.Key, x.Val, toldProof(p), told(other), is, e)
		}
	}
}

// flipped is a text with another bit.
func flipped(s string, bit int) string {
	b := []byte(s)
	b[bit/8] ^= 1 << (bit % 8)
	return string(b)
}

// checkLike holds P18.1's Like of two proofs.
func checkLike(t *testing.T, a, b api.Proof) {
	t.Helper()
	want := written(a) == written(b)
	if one, other := proof.Like(a, b), proof.Like(b, a); one != want || other != want {
		t.Errorf("Like of %v and %v = %v, %v, want %v", toldProof(a), toldProof(b), one, other, want)
	}
}

// eachList has see each list of up to so many of some items, in each order, each of them as often as may be.
func eachList(items []api.Item, many int, ahead []api.Item, see func(l []api.Item)) {
	see(ahead)
	if many == 0 {
		return
	}
	for _, x := range items {
		eachList(items, many-1, append(slices.Clone(ahead), x), see)
	}
}

// Each list of up to three of five items, those that may be, and those that may not, since their numbers fall or stand twice; and in each list each number, and some that it has not.
func TestEachSmallList(t *testing.T) {
	numbers := []uint64{0, 9, 18, 130, 146}
	eachList(items(numbers...), 3, nil, func(l []api.Item) {
		for _, k := range append(numbers, 1, 19) {
			checkProve(t, key, l, k)
		}
	})
}

// Each list of five numbers of the heights 5, 1, 4, 8 and 8, and of five of the heights 1, 2, 1, 3 and 1, has of each of them a proof, or not.
func TestEachListOfFiveNumbers(t *testing.T) {
	for _, numbers := range [][]uint64{{0, 9, 18, 130, 146}, {9, 10, 11, 13, 14}} {
		for set := range 1 << 5 {
			var l []api.Item
			for i, n := range numbers {
				if set>>i&1 == 1 {
					l = append(l, item(n))
				}
			}
			for _, k := range numbers {
				checkProve(t, key, l, k)
				checkProve(t, "", l, k)
			}
		}
	}
}

// randomList is a list that may be, of numbers of all sizes.
func randomList(r *rand.Rand, many int) []api.Item {
	var l []api.Item
	for len(l) < many {
		l, _ = skip.Put(l, api.Item{Key: r.Uint64() >> r.Intn(64), Val: text(r.Intn(65))})
	}
	return l
}

// Lists at random, by keys at random, some of them changed so that they may not be.
func TestListsAtRandom(t *testing.T) {
	for seed := range int64(25) {
		r := rand.New(rand.NewSource(seed))
		key := string([]byte{byte(seed)}) + text(r.Intn(100))
		l := randomList(r, r.Intn(16))
		for _, x := range l {
			checkProve(t, key, l, x.Key)
			checkProve(t, key, l, x.Key+1)
			checkProve(t, key, l, x.Key-1)
		}
		if len(l) > 1 {
			i, j := r.Intn(len(l)), r.Intn(len(l))
			l[i], l[j] = l[j], l[i]
			checkProve(t, key, l, l[i].Key)
			l[i] = l[j]
			checkProve(t, key, l, l[i].Key)
		}
	}
}

// P18.3: a number's proof shows its item, of the list's label, in whatever order the items were put, and whatever was put and dropped on the way: it is the same proof.
func TestProofDoesNotHangOnHowAListWasMade(t *testing.T) {
	r := rand.New(rand.NewSource(1))
	for _, many := range []int{1, 2, 3, 10, 20} {
		want := randomList(r, many)
		for range 3 {
			l := madeAnew(t, r, want)
			if !slices.Equal(l, want) {
				t.Fatalf("%v, want %v", show(l), show(want))
			}
			root, e := label.Root(key, want)
			if e != api.OK {
				t.Fatal(e)
			}
			for _, x := range want {
				one, _ := proof.Prove(key, want, x.Key)
				other, e := proof.Prove(key, l, x.Key)
				if written(one) != written(other) || e != api.OK {
					t.Fatalf("Prove of %v in %v = %v, and %v, %v", x.Key, show(l), toldProof(one), toldProof(other), e)
				}
				if is, e := proof.Check(root, x, other); !is || e != api.OK {
					t.Fatalf("Check of %v in %v = %v, %v", x.Key, show(l), is, e)
				}
			}
		}
	}
}

// madeAnew is a list made of a list's items at random: in any order, some of them put twice, others put and dropped on the way.
func madeAnew(t *testing.T, r *rand.Rand, want []api.Item) []api.Item {
	t.Helper()
	var l []api.Item
	for _, i := range r.Perm(len(want)) {
		if r.Intn(2) == 0 {
			l = put(t, l, api.Item{Key: want[i].Key, Val: "another"})
		}
		other := api.Item{Key: want[i].Key + 1, Val: "other"}
		drops := r.Intn(2) == 0 && !slices.ContainsFunc(l, func(x api.Item) bool { return x.Key == other.Key })
		if drops {
			l = put(t, l, other)
		}
		l = put(t, l, want[i])
		if drops {
			l = drop(t, l, other.Key)
		}
	}
	return l
}

// put is a list with an item more.
func put(t *testing.T, l []api.Item, x api.Item) []api.Item {
	t.Helper()
	got, e := skip.Put(l, x)
	if e != api.OK {
		t.Fatalf("Put of %v to %v = %v", x.Key, show(l), e)
	}
	return got
}

// drop is a list without an item.
func drop(t *testing.T, l []api.Item, k uint64) []api.Item {
	t.Helper()
	got, e := skip.Drop(l, k)
	if e != api.OK {
		t.Fatalf("Drop of %v from %v = %v", k, show(l), e)
	}
	return got
}

// changes are how a proof, which may be changed, is made another one at random; each tells whether it is one.
var changes = []func(r *rand.Rand, p *api.Proof) bool{
	func(r *rand.Rand, p *api.Proof) bool { return changeRow(r, p, addLabel) },
	func(r *rand.Rand, p *api.Proof) bool { return changeRow(r, p, dropLabel) },
	func(r *rand.Rand, p *api.Proof) bool { return changeRow(r, p, changeLabel) },
	func(r *rand.Rand, p *api.Proof) bool { return changeRow(r, p, sizeLabel) },
	func(r *rand.Rand, p *api.Proof) bool { return changeRow(r, p, swapLabels) },
	func(r *rand.Rand, p *api.Proof) bool { return changeRow(r, p, manyLabels) },
	changeSides,
	moveLabel,
	swapLevels,
	changeMany,
}

// changeRow changes a row of a proof.
func changeRow(r *rand.Rand, p *api.Proof, change func(r *rand.Rand, row []string) []string) bool {
	rows := p.Before
	if r.Intn(2) == 0 {
		rows = p.After
	}
	if len(rows) == 0 {
		return false
	}
	level := r.Intn(len(rows))
	was := slices.Clone(rows[level])
	rows[level] = change(r, rows[level])
	return !slices.Equal(was, rows[level])
}

func addLabel(r *rand.Rand, row []string) []string {
	return slices.Insert(row, r.Intn(len(row)+1), sum(text(r.Intn(9))))
}

func dropLabel(r *rand.Rand, row []string) []string {
	if len(row) == 0 {
		return row
	}
	at := r.Intn(len(row))
	return slices.Delete(row, at, at+1)
}

func changeLabel(r *rand.Rand, row []string) []string {
	if len(row) > 0 {
		at := r.Intn(len(row))
		row[at] = flipped(row[at]+"\x00", r.Intn(8*len(row[at])+1))[:len(row[at])]
	}
	return row
}

func sizeLabel(r *rand.Rand, row []string) []string {
	if len(row) > 0 {
		row[r.Intn(len(row))] = text(r.Intn(66))
	}
	return row
}

func swapLabels(r *rand.Rand, row []string) []string {
	if len(row) > 1 {
		i, j := r.Intn(len(row)), r.Intn(len(row))
		row[i], row[j] = row[j], row[i]
	}
	return row
}

func manyLabels(r *rand.Rand, row []string) []string {
	return slices.Repeat([]string{sum("one of many")}, 63+r.Intn(3))
}

// changeSides changes the labels ahead of a proof's over with those behind it.
func changeSides(r *rand.Rand, p *api.Proof) bool {
	was := written(*p)
	p.Before, p.After = p.After, p.Before
	return written(*p) != was
}

// moveLabel moves a label over the proof's own one, from behind it to ahead of it.
func moveLabel(r *rand.Rand, p *api.Proof) bool {
	for level := range min(len(p.Before), len(p.After)) {
		if after := p.After[level]; len(after) > 0 {
			p.Before[level] = append(slices.Clone(p.Before[level]), after[0])
			p.After[level] = after[1:]
			return true
		}
	}
	return false
}

// swapLevels changes two levels' rows over.
func swapLevels(r *rand.Rand, p *api.Proof) bool {
	if len(p.Before) < 2 || len(p.After) < len(p.Before) {
		return false
	}
	was := written(*p)
	i, j := r.Intn(len(p.Before)), r.Intn(len(p.Before))
	p.Before[i], p.Before[j] = p.Before[j], p.Before[i]
	p.After[i], p.After[j] = p.After[j], p.After[i]
	return written(*p) != was
}

// changeMany makes a row more, or one less.
func changeMany(r *rand.Rand, p *api.Proof) bool {
	rows := &p.Before
	if r.Intn(2) == 0 {
		rows = &p.After
	}
	if len(*rows) > 0 && r.Intn(2) == 0 {
		*rows = (*rows)[:len(*rows)-1]
	} else {
		*rows = append(*rows, nil)
	}
	return true
}

// cloned is a proof that shares nothing with another one.
func cloned(p api.Proof) api.Proof {
	var c api.Proof
	for _, row := range p.Before {
		c.Before = append(c.Before, slices.Clone(row))
	}
	for _, row := range p.After {
		c.After = append(c.After, slices.Clone(row))
	}
	return c
}

// Proofs, changed at random, once or more often, are another one to Like, and show the item of the list's label no more; Steps and Check are as the chapter's words tell it, whether they may be or not.
func TestChangedProofsAtRandom(t *testing.T) {
	changed := 0
	for seed := range int64(400) {
		r := rand.New(rand.NewSource(seed))
		l := randomList(r, 1+r.Intn(12))
		x := l[r.Intn(len(l))]
		p, e := proof.Prove(key, l, x.Key)
		if e != api.OK {
			t.Fatal(e)
		}
		root := rootOf(key, l)
		other := cloned(p)
		is := false
		for range 1 + r.Intn(3) {
			is = changes[r.Intn(len(changes))](r, &other) || is
		}
		checkLike(t, p, other)
		checkSteps(t, x, other)
		if written(p) == written(other) {
			continue
		}
		if !is {
			t.Fatal("a change that was not told")
		}
		changed++
		for _, y := range l {
			if is, _ := proof.Check(root, y, other); is {
				t.Errorf("Check of %v in %v by a changed proof, %v: true", y.Key, show(l), toldProof(other))
			}
		}
	}
	if changed < 200 {
		t.Errorf("%v changed ones alone", changed)
	}
}

// P18.3: no other item, and none that is not in the list, is shown of its label by a proof of any of its items.
func TestNoOtherItemIsShown(t *testing.T) {
	for seed := range int64(30) {
		r := rand.New(rand.NewSource(seed))
		l := randomList(r, 1+r.Intn(8))
		root := rootOf(key, l)
		for _, of := range l {
			p, e := proof.Prove(key, l, of.Key)
			if e != api.OK {
				t.Fatal(e)
			}
			others := append(slices.Clone(l), api.Item{}, api.Item{Key: of.Key + 1, Val: of.Val}, api.Item{Key: of.Key - 1, Val: of.Val}, api.Item{Key: ^of.Key, Val: of.Val})
			if len(of.Val) > 0 {
				others = append(others, api.Item{Key: of.Key, Val: of.Val[1:]}, api.Item{Key: of.Key, Val: flipped(of.Val, r.Intn(8*len(of.Val)))})
			}
			if len(of.Val) < 64 {
				others = append(others, api.Item{Key: of.Key, Val: of.Val + "\x00"})
			}
			for _, x := range others {
				if is, e := proof.Check(root, x, p); is != (x == of) || e != api.OK {
					t.Errorf("Check of %v and %q by the proof of %v and %q = %v, %v", x.Key, x.Val, of.Key, of.Val, is, e)
				}
			}
		}
	}
}

// proofFrom is a proof that some bytes tell: of each row how many labels it has, and now and then one that has not 32 bytes.
func proofFrom(b string) api.Proof {
	var p api.Proof
	next := func() int {
		if b == "" {
			return 0
		}
		n := int(b[0])
		b = b[1:]
		return n
	}
	rows := func(many int) [][]string {
		var l [][]string
		for range many {
			n := next()
			row := slices.Repeat([]string{sum(text(n))}, n%70)
			if n >= 250 {
				row = []string{text(n - 250 + 29)}
			}
			l = append(l, row)
		}
		return l
	}
	p.Before = rows(8 + next()/64%2)
	p.After = rows(8 - next()/64%2)
	return p
}

// P1: no call panics at any arguments, and all are as told here.
func FuzzProof(f *testing.F) {
	f.Add("", "", uint64(0), "", uint64(0), "")
	f.Add("a key", "\x03\x05\x09", uint64(5), "a", uint64(1), "\x00\x01\x02\x00\x01\x00\x00\x00\x00\x00\x03")
	f.Add("another key", "\x09\x05", uint64(9), "a", uint64(1<<63), "\x40\x01")
	f.Add("a key", "\x00\x82\x92", uint64(146), text(65), uint64(1), "\x00\xfd\x01")
	f.Add("\xff", text(65), uint64(1<<64-1), text(64), uint64(1<<32), "\x00\xff\xfe\xfd\xfc\xfb\xfa")
	f.Add("a key", "\x01\x02\x03\x04", uint64(2), text(32), uint64(1), "\x00\x40\x41\x3f\x00\x01\x02\x03\x04\x00\x41")
	f.Fuzz(func(t *testing.T, key, bytes string, k uint64, val string, times uint64, told string) {
		l := make([]api.Item, 0, len(bytes))
		for i := range len(bytes) {
			l = append(l, api.Item{Key: uint64(bytes[i]) * times, Val: val[:min(len(val), i)]})
		}
		checkProve(t, key, l, k)
		if len(l) > 0 {
			checkProve(t, key, l, l[int(k%uint64(len(l)))].Key)
		}
		p := proofFrom(told)
		checkSteps(t, api.Item{Key: k, Val: val}, p)
		checkLike(t, p, proofFrom(told))
		checkLike(t, p, proofFrom(told[min(len(told), 1):]))
	})
}
