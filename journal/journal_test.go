package journal_test

import (
	"encoding/hex"
	"math"
	"slices"
	"strings"
	"testing"

	"saltus/api"
	"saltus/journal"
)

// of is a text of so many bytes, whose pieces are not alike.
func of(many int) string {
	b := make([]byte, many)
	for i := range b {
		b[i] = byte(i*7 + i>>8*31 + i>>16*5 + 3)
	}
	return string(b)
}

// filled is a text of one byte, so often.
func filled(b byte, many int) string { return strings.Repeat(string([]byte{b}), many) }

// turned is a text with one bit of it turned.
func turned(s string, bit int) string {
	b := []byte(s)
	b[bit/8] ^= 1 << (bit % 8)
	return string(b)
}

func unhex(t testing.TB, s string) string {
	t.Helper()
	b, err := hex.DecodeString(strings.ReplaceAll(s, " ", ""))
	if err != nil {
		t.Fatal(err)
	}
	return string(b)
}

// The sizes and numbers that are edges.
var (
	keySizes  = []int{0, 1, 16, 32, 63, 64, 65, 66, 128, 5000}
	textSizes = []int{0, 1, 2, 8, 9, 10, 63, 64, 65, 255, 256, 257, 4094, 4095, 4096, 4097, 4098, 8192, 1<<16 - 1, 1 << 16, 1<<16 + 1, 1<<16 + 4096}
	numbers   = []uint64{0, 1, 255, 256, 1<<32 - 1, 1 << 32, 1<<63 - 1, 1 << 63, math.MaxUint64 - 1, math.MaxUint64}
)

// noTexts are bytes that are no UTF-8, or are told by no sign.
var noTexts = []string{"\x00", "\x00\x00", "\x00\x00\x00\x00\x00\x00\x00\x00\x00\x00", "\xff", "\xff\xfe\xfd", "\xc3", "\xc3(", "\xed\xa0\x80", "\xf4\x90\x80\x80", "a\x80b", " ", "\n"}

// The key, and the first text, where no others are asked for.
const (
	key   = "a key for chains, 32 bytes long."
	first = "a first text"
)

// some are texts of a journal that is not too long to be turned bit by bit.
var some = []string{"a", "", "bcd", "", "", "\xff\x00\xfe", of(40)}

// The chapter's example.
func TestExample(t *testing.T) {
	groups, left := journal.Whole([]string{"a", "b", "", "c"})
	if len(groups) != 1 || !slices.Equal(groups[0], []string{"a", "b"}) || !slices.Equal(left, []string{"c"}) {
		t.Errorf("Whole = %q, %q", groups, left)
	}
}

// P13.1

// Numbers that were told beside the program, by another one, of keys and first texts of so many bytes of of.
func TestStartAsPrinted(t *testing.T) {
	for _, x := range []struct {
		key, first int
		want       uint64
	}{
		{0, 5000, 0x0e309cae39ce2166},
		{1, 65, 0x2cf0bd5ac1f283a2},
		{16, 64, 0x84207c05df902fac},
		{32, 32, 0xe51c11011dec7239},
		{64, 16, 0x0d566666dbd4d007},
		{65, 1, 0x7db27f4b9eba7d3a},
		{200, 0, 0x7b0c87ba190c4f12},
	} {
		if got := journal.Start(of(x.key), of(x.first)); got != x.want {
			t.Errorf("Start(%v bytes, %v bytes) = %x, want %x", x.key, x.first, got, x.want)
		}
	}
}

// Records that were told so, too: their number is their last 8 bytes, the lowest first.
func TestRecordAsPrinted(t *testing.T) {
	for _, x := range []struct {
		key    int
		last   uint64
		s      string
		record string
		number uint64
	}{
		{0, 0, "", "0000 b63cd724d9d4d16f", 0x6fd1d4d924d73cb6},
		{16, 0, "a", "0100 61 2cdfe40289acd010", 0x10d0ac8902e4df2c},
		{16, 1, "a", "0100 61 023948648d0f371d", 0x1d370f8d64483902},
		{32, 1 << 32, "ab", "0200 6162 3d8403a59091ab2b", 0x2bab9190a503843d},
		{64, 1 << 63, "\xff\xc3\x00n", "0400 ffc3006e 7947cf0c4e462c70", 0x702c464e0ccf4779},
		{65, math.MaxUint64, "", "0000 81a4b87d4eb8c6f0", 0xf0c6b84e7db8a481},
		{65, math.MaxUint64, of(63), "3f00" + hex.EncodeToString([]byte(of(63))) + "afccb4fd8e8f0d9b", 0x9b0d8f8efdb4ccaf},
		{32, 258, of(255), "ff00" + hex.EncodeToString([]byte(of(255))) + "797be5e94c0c0e43", 0x430e0c4ce9e57b79},
		{32, 258, of(256), "0001" + hex.EncodeToString([]byte(of(256))) + "e13edb5e39b8e462", 0x62e4b8395edb3ee1},
		{32, 258, of(4095), "ff0f" + hex.EncodeToString([]byte(of(4095))) + "2032a6760da5c151", 0x51c1a50d76a63220},
		{32, 258, of(4096), "0010" + hex.EncodeToString([]byte(of(4096))) + "656dd564d2a8f5b3", 0xb3f5a8d264d56d65},
	} {
		if got, n, e := journal.Record(of(x.key), x.last, x.s); got != unhex(t, x.record) || n != x.number || e != api.OK {
			t.Errorf("Record(%v bytes, %x, %.10q) = %.40x, %x, %v, want %.40v, %x", x.key, x.last, x.s, got, n, e, x.record, x.number)
		}
	}
}

// Journals that were told so, too.
func TestJournalAsPrinted(t *testing.T) {
	for _, x := range []struct {
		key, first string
		l          []string
		log        string
		last       uint64
	}{
		{of(16), "first", []string{"a", "b", "", "c"}, "0100 61 eaf88c37d328449a 0100 62 5355e1bdcdf18162 0000 5b57106cbeff855a 0100 63 5dc536d7e5b0f110", 0x10f1b0e5d736c55d},
		{"", "", []string{""}, "0000 8fcccacac720a215", 0x15a220c7cacacc8f},
		{of(32), of(65), []string{"", "", "\x00", "\xff\xfe"}, "0000 612ce1a0f38d371a 0000 0f9d6dc0533ad4fe 0100 00 993ab85e2ad8d53e 0200 fffe deb6754024d8cb6c", 0x6ccbd8244075b6de},
	} {
		log := unhex(t, x.log)
		if got, e := journal.Write(x.key, x.first, x.l); got != log || e != api.OK {
			t.Errorf("Write(%q) = %x, %v, want %v", x.l, got, e, x.log)
		}
		mustScan(t, x.key, x.first, log, x.l, len(log), x.last)
	}
}

func TestStartAtEdges(t *testing.T) {
	for _, keySize := range keySizes {
		for _, size := range append(textSizes, 1<<20+1) {
			for _, x := range [][2]string{{of(keySize), of(size)}, {filled(0xff, keySize), filled(0, size)}} {
				if got, want := journal.Start(x[0], x[1]), wordOf(x[0], x[1]); got != want {
					t.Errorf("Start(%v bytes, %v bytes) = %x, want %x", keySize, size, got, want)
				}
			}
		}
	}
}

func TestRecordAtEdges(t *testing.T) {
	for _, keySize := range keySizes {
		for _, last := range numbers {
			for _, size := range textSizes {
				checkRecord(t, of(keySize), last, of(size))
			}
			for _, s := range noTexts {
				checkRecord(t, of(keySize), last, s)
			}
		}
	}
	for _, size := range textSizes {
		for _, b := range []byte{0, 0x80, 0xff} {
			checkRecord(t, key, 7, filled(b, size))
		}
	}
	checkRecord(t, key, 7, of(1<<20))
}

func TestWriteAtEdges(t *testing.T) {
	many := make([]string, 300)
	for i := range many {
		many[i] = of(i % 70)
	}
	for _, l := range [][]string{nil, {}, {""}, {"", "", "", ""}, {"a"}, {"a", "b"}, {"", "a"}, {"a", ""}, some, noTexts, many} {
		for _, keySize := range keySizes {
			for _, firstSize := range keySizes {
				checkWrite(t, of(keySize), of(firstSize), l)
			}
		}
	}
	for _, size := range textSizes {
		checkWrite(t, key, first, []string{of(size)})
		checkWrite(t, key, first, []string{of(size), "", of(size)})
	}
}

// A text that is too long, at each place of a journal; and two of them.
func TestWriteOfTextsThatAreTooLong(t *testing.T) {
	for _, size := range []int{4097, 4098, 1 << 16, 1<<16 + 1, 1<<16 + 4096} {
		for _, l := range [][]string{{""}, {"a", "b"}, some, {"a", of(4096), ""}} {
			for at := range len(l) + 1 {
				long := slices.Insert(slices.Clone(l), at, of(size))
				if got, e := journal.Write(key, first, long); got != "" || e != api.ErrSize {
					t.Errorf("Write of %v texts, of %v bytes at %v = %.40x, %v, want ErrSize", len(long), size, at, got, e)
				}
				checkWrite(t, key, first, append(long, of(size)))
			}
		}
	}
}

// P13.2

func TestScanOfFewBytes(t *testing.T) {
	start := wordOf(key, first)
	record, _ := recordOf(key, start, "")
	for size := range 30 {
		for _, log := range []string{of(size), filled(0, size), filled(0xff, size), "\x01" + filled(0, size), "\x00\x01" + filled(0, size)} {
			mustScan(t, key, first, log, nil, 0, start)
		}
		if size < len(record) {
			mustScan(t, key, first, record[:size], nil, 0, start)
			mustScan(t, key, first, record[len(record)-size:], nil, 0, start)
		}
	}
	mustScan(t, key, first, "", nil, 0, start)
	checkScan(t, key, first, record)
	checkScan(t, key, first, record+"\x00")
}

// The number that is told where no record stands is the first one, whatever the key and the first text.
func TestScanOfNoRecord(t *testing.T) {
	for _, keySize := range keySizes {
		for _, firstSize := range keySizes {
			for _, log := range []string{"", "a", filled(0, 10), of(100)} {
				mustScan(t, of(keySize), of(firstSize), log, nil, 0, wordOf(of(keySize), of(firstSize)))
			}
		}
	}
}

// ends is where each record of a journal ends.
func ends(records []string) []int {
	l := make([]int, len(records))
	end := 0
	for i, r := range records {
		end += len(r)
		l[i] = end
	}
	return l
}

// mustScanSome holds that of some's journal just so many records are scanned.
func mustScanSome(t *testing.T, log string, many int) {
	t.Helper()
	records, last := recordsOf(key, first, some[:many])
	mustScan(t, key, first, log, some[:many], len(strings.Join(records, "")), last)
}

func TestScanCutAnywhere(t *testing.T) {
	records, _ := recordsOf(key, first, some)
	log := strings.Join(records, "")
	for cut := range len(log) + 1 {
		many := 0
		for _, end := range ends(records) {
			if end <= cut {
				many++
			}
		}
		mustScanSome(t, log[:cut], many)
	}
}

// A bit turned in a length, a text or a number: what stands ahead of its record is scanned, and no more.
func TestScanOfATurnedBit(t *testing.T) {
	records, _ := recordsOf(key, first, some)
	log := strings.Join(records, "")
	many, end := 0, ends(records)
	for bit := range 8 * len(log) {
		if bit/8 == end[many] {
			many++
		}
		mustScanSome(t, turned(log, bit), many)
	}
}

// A byte that is any other one, at each place of a record's length and number, and at a text's ends.
func TestScanOfAnyOtherByte(t *testing.T) {
	ahead, last := journalOf(key, first, []string{"x"})
	for _, s := range []string{"", "a", of(300), of(4096)} {
		record, _ := recordOf(key, last, s)
		places := []int{0, 1, 2, len(s) + 1}
		for i := range 8 {
			places = append(places, 2+len(s)+i)
		}
		for _, at := range places {
			for b := range 256 {
				other := record[:at] + filled(byte(b), 1) + record[at+1:]
				if other != record {
					mustScan(t, key, first, ahead+other+filled(0, 20), []string{"x"}, len(ahead), last)
				}
			}
		}
	}
}

func TestScanWithBytesBehind(t *testing.T) {
	for _, l := range [][]string{nil, {""}, {"a"}, some} {
		log, last := journalOf(key, first, l)
		next, _ := recordOf(key, last, "next")
		behindAnother, _ := recordOf(key, last+1, "next")
		byAnother, _ := recordOf("another key", last, "next")
		turnedRound := "\x00\x04" + next[2:]
		behind := []string{"a", filled(0, 1), filled(0, 2), filled(0, 9), filled(0, 10), filled(0, 5000), filled(0xff, 5000), of(5000), next[1:], next[:len(next)-1], turned(next, 0), behindAnother, byAnother, turnedRound, "a" + next}
		if len(l) > 0 {
			behind = append(behind, log)
		}
		for _, tail := range behind {
			mustScan(t, key, first, log+tail, l, len(log), last)
		}
	}
}

// A record behind the last number that a scan tells, put behind the journal, is scanned with it, from there on again and again.
func TestScanOfRecordsPutBehind(t *testing.T) {
	for _, firstSize := range keySizes {
		log, l := "", []string{}
		for _, s := range append(some, of(4096), "", "z") {
			_, end, last := journal.Scan(key, of(firstSize), log)
			if end != len(log) {
				t.Fatalf("the end is %v, want %v", end, len(log))
			}
			record, next, e := journal.Record(key, last, s)
			if e != api.OK {
				t.Fatal(e)
			}
			log, l = log+record, append(l, s)
			mustScan(t, key, of(firstSize), log, l, len(log), next)
		}
		if want, e := journal.Write(key, of(firstSize), l); log != want || e != api.OK {
			t.Errorf("%.40x, want %.40x, %v", log, want, e)
		}
	}
}

func TestScanByAnotherKeyOrFirstText(t *testing.T) {
	log, last := journalOf(key, first, some)
	for _, x := range [][2]string{{"", first}, {key[1:], first}, {key + "a", first}, {key + "\x01", first}, {turned(key, 255), first}, {first, key}, {key, ""}, {key, first + "\x00"}, {key, first[1:]}, {key, turned(first, 0)}, {key + first, ""}, {"", ""}} {
		mustScan(t, x[0], x[1], log, nil, 0, wordOf(x[0], x[1]))
	}
	// A byte 0 behind a short key does not change its tags.
	mustScan(t, key+"\x00", first, log, some, len(log), last)
}

// A record left out, twice, or out of its place: what stands ahead is scanned, and no more.
func TestScanOfRecordsOutOfPlace(t *testing.T) {
	records, _ := recordsOf(key, first, some)
	joined := func(lists ...[]string) string { return strings.Join(slices.Concat(lists...), "") }
	for i := range records {
		mustScanSome(t, joined(records[:i], records[i+1:]), i)
		mustScanSome(t, joined(records[:i+1], records[i:i+1]), i+1)
		mustScanSome(t, joined(records[:i+1], records[i:]), i+1)
		for to := range i {
			mustScanSome(t, joined(records[:to], records[i:i+1], records[to:i], records[i+1:]), to)
		}
	}
	slices.Reverse(records)
	mustScanSome(t, joined(records), 0)
}

// Whole records behind one that is not are not scanned, wherever their numbers come from.
func TestScanOfRecordsBehindOneThatIsNot(t *testing.T) {
	for _, l := range [][]string{nil, {"a"}, {"a", ""}} {
		log, last := journalOf(key, first, l)
		wrong, number := recordOf(key, last, "b")
		for bit := range 8 * len(wrong) {
			bad := turned(wrong, bit)
			for _, from := range []uint64{last, number, number ^ 1, 0} {
				behind, _ := recordOf(key, from, "c")
				mustScan(t, key, first, log+bad+behind, l, len(log), last)
			}
		}
	}
}

// Lengths that a record may have, and those that none has, though its number were the one for it.
func TestScanOfLengths(t *testing.T) {
	for _, l := range [][]string{nil, {"a", ""}} {
		log, last := journalOf(key, first, l)
		for _, size := range []int{0, 1, 255, 256, 4095, 4096, 4097, 4098, 8192, 1<<15 - 1, 1 << 15, 1<<16 - 1} {
			record, next := recordOf(key, last, of(size))
			behind, end := recordOf(key, next, "b")
			if size > 4096 {
				mustScan(t, key, first, log+record, l, len(log), last)
				mustScan(t, key, first, log+record+behind, l, len(log), last)
				continue
			}
			with := append(slices.Clone(l), of(size))
			mustScan(t, key, first, log+record, with, len(log+record), next)
			mustScan(t, key, first, log+record+behind, append(with, "b"), len(log+record+behind), end)
		}
		for _, length := range []string{"\x01\x00", "\xff\x00", "\x00\x01", "\xff\x0f", "\x00\x10", "\x01\x10", "\xff\xff"} {
			many := int(length[0]) + 256*int(length[1])
			for _, left := range []int{0, 1, many - 1, many, many + 1, many + 7} {
				mustScan(t, key, first, log+length+of(left), l, len(log), last)
			}
		}
	}
}

// P13.3

func TestWholeAtEdges(t *testing.T) {
	for _, letters := range []string{"", ".", "..", ".....", "a", "abc", "a.", ".a", ".a.", "..a", "a..", "a..b", "a.b", "ab.c", "ab.cd.", "ab..cd..ef", "..ab.c..", strings.Repeat("ab.", 500), strings.Repeat(".", 500), strings.Repeat("a", 500)} {
		checkWhole(t, letters)
	}
	for _, l := range [][]string{nil, {}} {
		if groups, left := journal.Whole(l); len(groups) != 0 || len(left) != 0 {
			t.Errorf("Whole of none = %q, %q", groups, left)
		}
	}
}

// No text but the empty one is a commit, however it looks, and however long it is.
func TestWholeOfTextsThatAreNoCommits(t *testing.T) {
	l := append(slices.Clone(noTexts), of(4096), of(4097), filled(0, 1<<16))
	if groups, left := journal.Whole(l); len(groups) != 0 || !slices.Equal(left, l) {
		t.Errorf("Whole = %.40q, %.40q", groups, left)
	}
	if groups, left := journal.Whole(append(l, "")); len(groups) != 1 || !slices.Equal(groups[0], l) || len(left) != 0 {
		t.Errorf("Whole with a commit = %.40q, %.40q", groups, left)
	}
}

// P13.4: of a journal that is cut anywhere, the groups that are told are the first ones of all, whole ones.
func TestGroupsOfAJournalCutAnywhere(t *testing.T) {
	l := textsOf("ab.c..def.g")
	log, e := journal.Write(key, first, l)
	if e != api.OK {
		t.Fatal(e)
	}
	all, _ := journal.Whole(l)
	for cut := range len(log) + 1 {
		texts, _, _ := journal.Scan(key, first, log[:cut])
		groups, left := journal.Whole(texts)
		if len(groups) > len(all) || !slices.EqualFunc(groups, all[:len(groups)], slices.Equal[[]string]) {
			t.Errorf("cut at %v: %q, want the first ones of %q", cut, groups, all)
		}
		if many := len(texts) - len(groups) - len(slices.Concat(groups...)); len(left) != many {
			t.Errorf("cut at %v: %q is left, want %v texts", cut, left, many)
		}
	}
}

// R4: no call changes the list that it was handed, nor what stands behind its end; and an answer's lists are nobody else's.
func TestListsAreNotChangedAndNotShared(t *testing.T) {
	want := textsOf("ab.cd..ef")
	memory := append(slices.Clone(want), "x", "y", "")
	l := memory[:len(want)]
	unchanged := func() bool {
		return slices.Equal(l, want) && slices.Equal(memory[len(want):], []string{"x", "y", ""})
	}
	if _, e := journal.Write(key, first, l); e != api.OK || !unchanged() {
		t.Errorf("Write changed a list: %q, %v", memory, e)
	}
	groups, left := journal.Whole(l)
	if !unchanged() {
		t.Errorf("Whole changed a list: %q", memory)
	}
	lists := append(groups, left)
	for i, list := range lists {
		clear(list[:cap(list)])
		if !unchanged() {
			t.Fatalf("list %v of Whole's answer is its argument's memory", i)
		}
		for _, next := range lists[i+1:] {
			if slices.Contains(next, "") {
				t.Fatalf("list %v of Whole's answer is another one's memory", i)
			}
		}
	}
}

// R1: each call tells the same each time.
func TestTheSameEachTime(t *testing.T) {
	log, _ := journalOf(key, first, some)
	for range 3 {
		checkWrite(t, key, first, some)
		checkScan(t, key, first, log)
		checkRecord(t, key, 7, "a")
		checkWhole(t, "ab.c")
		mustScan(t, "another", first, log, nil, 0, wordOf("another", first))
	}
}
