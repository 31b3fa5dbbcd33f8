package journal_test

import (
	"crypto/hmac"
	"crypto/sha256"
	"encoding/binary"
	"math/rand"
	"slices"
	"strings"
	"testing"

	"saltus/api"
	"saltus/journal"
)

// The tests here hold the calls against the chapter's words told in another way: numbers by the library's HMAC, records by trying each size that one may have.

// wordOf is a key's number for a text.
func wordOf(key, text string) uint64 {
	h := hmac.New(sha256.New, []byte(key))
	h.Write([]byte(text))
	return binary.LittleEndian.Uint64(h.Sum(nil))
}

// numberOf is a number's bytes.
func numberOf(n uint64) string { return string(binary.LittleEndian.AppendUint64(nil, n)) }

// lengthOf is the bytes of how many bytes a text has, of up to 65535.
func lengthOf(many int) string { return string(binary.LittleEndian.AppendUint16(nil, uint16(many))) }

// recordOf is a text's record behind a number, and its number; of a text that is too long, what would be one if it were not.
func recordOf(key string, last uint64, s string) (string, uint64) {
	text := lengthOf(len(s)) + s
	n := wordOf(key, numberOf(last)+text)
	return text + numberOf(n), n
}

// recordsOf are texts' records, one by one, and the last one's number.
func recordsOf(key, first string, l []string) ([]string, uint64) {
	records := make([]string, len(l))
	last := wordOf(key, first)
	for i, s := range l {
		records[i], last = recordOf(key, last, s)
	}
	return records, last
}

// journalOf is texts' journal, and its last number.
func journalOf(key, first string, l []string) (string, uint64) {
	records, last := recordsOf(key, first, l)
	return strings.Join(records, ""), last
}

// standing is the text of the record behind a number that some bytes begin with, and whether there is one: each size is tried.
func standing(key string, last uint64, log string) (string, bool) {
	for many := range min(4096, len(log)-10) + 1 {
		if !strings.HasPrefix(log, lengthOf(many)) {
			continue
		}
		s := log[2 : 2+many]
		if record, _ := recordOf(key, last, s); strings.HasPrefix(log, record) {
			return s, true
		}
	}
	return "", false
}

// scanned is what a scan should tell.
func scanned(key, first, log string) ([]string, int, uint64) {
	var l []string
	end, last := 0, wordOf(key, first)
	for {
		s, is := standing(key, last, log[end:])
		if !is {
			return l, end, last
		}
		record, n := recordOf(key, last, s)
		l, end, last = append(l, s), end+len(record), n
	}
}

// checkScan holds P13.2 of any bytes; and P13.4: what is scanned, written, is the bytes up to the end, and is scanned so by itself.
func checkScan(t *testing.T, key, first, log string) {
	t.Helper()
	wantTexts, wantEnd, wantLast := scanned(key, first, log)
	mustScan(t, key, first, log, wantTexts, wantEnd, wantLast)
	if wantEnd < len(log) {
		mustScan(t, key, first, log[:wantEnd], wantTexts, wantEnd, wantLast)
	}
	if again, e := journal.Write(key, first, wantTexts); again != log[:wantEnd] || e != api.OK {
		t.Errorf("Write of what was scanned = %.40x, %v, want %.40x", again, e, log[:wantEnd])
	}
}

// mustScan holds what Scan tells.
func mustScan(t *testing.T, key, first, log string, wantTexts []string, wantEnd int, wantLast uint64) {
	t.Helper()
	texts, end, last := journal.Scan(key, first, log)
	if !slices.Equal(texts, wantTexts) || end != wantEnd || last != wantLast {
		t.Errorf("Scan of %v bytes (%.40x) = %.40q, %v, %x, want %.40q, %v, %x", len(log), log, texts, end, last, wantTexts, wantEnd, wantLast)
	}
}

// checkWrite holds P13.1 of a journal; and P13.4: it is scanned as it was written.
func checkWrite(t *testing.T, key, first string, l []string) {
	t.Helper()
	want, last := journalOf(key, first, l)
	why := api.OK
	if slices.ContainsFunc(l, func(s string) bool { return len(s) > 4096 }) {
		want, why = "", api.ErrSize
	}
	got, e := journal.Write(key, first, l)
	if got != want || e != why {
		t.Errorf("Write by keys and firsts of %v, %v bytes, of %v texts = %.40x, %v, want %.40x, %v", len(key), len(first), len(l), got, e, want, why)
	}
	if e == api.OK {
		mustScan(t, key, first, got, l, len(got), last)
	}
}

// checkRecord holds P13.1 of a record.
func checkRecord(t *testing.T, key string, last uint64, s string) {
	t.Helper()
	want, number := recordOf(key, last, s)
	why := api.OK
	if len(s) > 4096 {
		want, number, why = "", 0, api.ErrSize
	}
	if got, n, e := journal.Record(key, last, s); got != want || n != number || e != why {
		t.Errorf("Record by a key of %v bytes, behind %x, of %v bytes = %.40x, %x, %v, want %.40x, %x, %v", len(key), last, len(s), got, n, e, want, number, why)
	}
}

// textsOf is a list of texts of one byte, told as letters; . is a commit.
func textsOf(letters string) []string {
	l := strings.Split(letters, "")
	for i, s := range l {
		if s == "." {
			l[i] = ""
		}
	}
	return l
}

// lettersOf is the other way round.
func lettersOf(l []string) string {
	var b strings.Builder
	for _, s := range l {
		if s == "" {
			s = "."
		}
		b.WriteString(s)
	}
	return b.String()
}

// checkWhole holds P13.3 of a list, told as letters: groups are what stands between dots; and P13.4: groups, with a commit behind each, and what is left, are the texts.
func checkWhole(t *testing.T, letters string) {
	t.Helper()
	l := textsOf(letters)
	parts := strings.Split(letters, ".")
	wantGroups, wantLeft := parts[:len(parts)-1], parts[len(parts)-1]
	groups, left := journal.Whole(l)
	var got, all []string
	for _, g := range groups {
		got = append(got, lettersOf(g))
		all = append(append(all, g...), "")
	}
	all = append(all, left...)
	if !slices.Equal(got, wantGroups) || lettersOf(left) != wantLeft {
		t.Errorf("Whole of %q = %q, %q, want %q, %q", letters, groups, left, wantGroups, wantLeft)
	}
	if !slices.Equal(all, l) {
		t.Errorf("Whole of %q: %q, with commits behind each", letters, all)
	}
	if lettersOf(l) != letters {
		t.Errorf("Whole of %q changed it: %q", letters, l)
	}
}

// lists has see each list of up to so many of some letters.
func lists(of string, many int, ahead string, see func(letters string)) {
	see(ahead)
	if many == 0 {
		return
	}
	for _, letter := range strings.Split(of, "") {
		lists(of, many-1, ahead+letter, see)
	}
}

func TestWholeOfEachSmallList(t *testing.T) {
	lists("a.", 10, "", func(letters string) { checkWhole(t, letters) })
	lists("abc.", 6, "", func(letters string) { checkWhole(t, letters) })
}

// P13.1, P13.2 and P13.4, of each list of up to four of three texts: as it was written, cut anywhere, and with the next record, or a part of it, behind it.
func TestJournalOfEachSmallList(t *testing.T) {
	lists("ab.", 4, "", func(letters string) {
		l := textsOf(letters)
		checkWrite(t, key, first, l)
		log, last := journalOf(key, first, l)
		next, n := recordOf(key, last, "a")
		mustScan(t, key, first, log+next, append(l[:len(l):len(l)], "a"), len(log)+len(next), n)
		for cut := range next {
			mustScan(t, key, first, log+next[:cut], l, len(log), last)
		}
		for cut := range log {
			checkScan(t, key, first, log[:cut])
		}
	})
}

// Journals at random, whose bytes are then cut, changed, put in and left out at random.
func TestScanOfChangedJournals(t *testing.T) {
	for seed := range int64(600) {
		r := rand.New(rand.NewSource(seed))
		key, first := of(r.Intn(70)), of(r.Intn(70))
		l := make([]string, r.Intn(9))
		for i := range l {
			l[i] = of(r.Intn(1 + []int{0, 1, 5, 70, 300, 4096}[r.Intn(6)]))
		}
		checkWrite(t, key, first, l)
		log, _ := journalOf(key, first, l)
		for range 6 {
			checkScan(t, key, first, changed(r, log))
		}
	}
}

// changed is a text with a piece of it left out, doubled, or changed.
func changed(r *rand.Rand, s string) string {
	from := r.Intn(len(s) + 1)
	to := min(len(s), from+r.Intn(25))
	switch r.Intn(4) {
	case 0:
		return s[:from] + s[to:]
	case 1:
		return s[:to] + s[from:]
	case 2:
		return s[:from]
	}
	b := []byte(s)
	for i := from; i < to; i++ {
		b[i] = byte(r.Intn(256))
	}
	return string(b)
}

// P1: no call panics at any arguments, and all are as told here.

func FuzzJournal(f *testing.F) {
	f.Add("", "", "", "", uint64(0))
	f.Add("a key", "first", "a\nb\n\nc", "\x00\x00", uint64(1))
	f.Add(of(65), of(65), of(4097), of(10), uint64(1<<64-1))
	f.Fuzz(func(t *testing.T, key, first, lines, behind string, last uint64) {
		checkRecord(t, key, last, lines)
		l := strings.Split(lines, "\n")
		checkWrite(t, key, first, l)
		log, _ := journalOf(key, first, l)
		checkScan(t, key, first, log+behind)
		checkScan(t, key, first, behind)
		journal.Whole(l)
	})
}
