package store

import (
	"strings"

	"saltus/api"
	"saltus/codec"
	"saltus/journal"
	"saltus/label"
)

// commitText is the text of a journal behind which all ahead of it is whole.
const commitText = ""

// head is what stands in a flush's head: its number, its blocks' label, and the generation of its record's first sector.
type head struct {
	number uint64
	label  string
	first  uint64
}

// flush has the slot know the volume's blocks by their label. Till its end the last flush's head, record and blocks stay as they are.
func flush(v *api.Vol) {
	number, _ := Next(v.Trust)
	_, k, _ := Layout(len(v.Dev.Store))
	barrier(v)
	h := head{number: number, label: labelOf(v.Trust, v.Items), first: nextGen(*v)}
	for i, piece := range pieces(logOf(v.Trust, h.label, v.Items), k) {
		put(v, api.SealMeta, recordAt(number, k)+i, noBlock, piece)
	}
	barrier(v)
	put(v, api.SealHead, headAt(number), noBlock, h.text())
	barrier(v)
	commit(v, number)
	release(v)
}

// mount has a volume begin with the blocks of its disk's last flush. That may be one whose number was not committed any more.
func mount(v *api.Vol) {
	next, _ := Next(v.Trust)
	last := v.Trust.Count
	boot(v)
	l, used, is := flushed(*v, next)
	if is {
		commit(v, next)
	} else if l, used, is = flushed(*v, last); !is {
		panic(diskLied{})
	}
	v.Items, v.Used = l, used
}

// flushed are the blocks of a number's flush, and what they take of the disk; and whether it opens, and is whole.
func flushed(v api.Vol, number uint64) ([]api.Item, api.Bits, bool) {
	h, is := headOf(v, number)
	if !is {
		return nil, api.Bits{}, false
	}
	log, is := recordOf(v, h)
	if !is {
		return nil, api.Bits{}, false
	}
	l, is := itemsIn(v.Trust, h.label, log)
	if !is || labelOf(v.Trust, l) != h.label {
		return nil, api.Bits{}, false
	}
	used, is := usedBy(len(v.Dev.Store), l)
	return l, used, is
}

// headOf is the head of a number's flush, and whether it opens, and is of that number.
func headOf(v api.Vol, number uint64) (head, bool) {
	_, text, is := opened(v, api.SealHead, headAt(number), noBlock)
	if !is {
		return head{}, false
	}
	h, is := headIn(text)
	return h, is && h.number == number
}

// recordOf is what stands in the record of a head's flush, and whether each sector opens with its own generation.
func recordOf(v api.Vol, h head) (string, bool) {
	_, k, _ := Layout(len(v.Dev.Store))
	var log strings.Builder
	for i := range k {
		piece, is := openedOf(v, api.SealMeta, recordAt(h.number, k)+i, noBlock, h.first+uint64(i))
		if !is {
			return "", false
		}
		log.WriteString(piece)
	}
	return log.String(), true
}

// text is a head's bytes.
func (h head) text() string {
	text, _ := codec.Join([]api.Field{{N: h.number}, {Text: true, S: h.label}, {N: h.first}})
	return text
}

// headIn is the head that bytes tell, and whether they tell one.
func headIn(text string) (head, bool) {
	fields, _, e := codec.Split(text, "ntn")
	if e != api.OK {
		return head{}, false
	}
	return head{number: fields[0].N, label: fields[1].S, first: fields[2].N}, true
}

// labelOf is a list's label; that of one which may not be is empty, and no list's.
func labelOf(t api.Trust, l []api.Item) string {
	root, _ := label.Root(keyOf(t, heightsKey), l)
	return root
}

// logOf is the journal of a list's items, committed, in a chain from the list's label on.
func logOf(t api.Trust, root string, l []api.Item) string {
	var texts []string
	for _, x := range l {
		texts = append(texts, codec.Number(x.Key)+x.Val)
	}
	log, _ := journal.Write(keyOf(t, recordsKey), root, append(texts, commitText))
	return log
}

// itemsIn is the list whose journal some bytes are, in a chain from a label on; and whether they are a whole one.
func itemsIn(t api.Trust, root, log string) ([]api.Item, bool) {
	texts, _, _ := journal.Scan(keyOf(t, recordsKey), root, log)
	groups, left := journal.Whole(texts)
	if len(groups) != 1 || len(left) > 0 {
		return nil, false
	}
	var l []api.Item
	for _, text := range groups[0] {
		fields, _, e := codec.Split(text, "nnn")
		if e != api.OK {
			return nil, false
		}
		l = append(l, api.Item{Key: fields[0].N, Val: codec.Number(fields[1].N) + codec.Number(fields[2].N)})
	}
	return l, true
}

// pieces are so many pieces of a text that has room in them: each as long as may be, and the last ones empty.
func pieces(text string, many int) []string {
	l := make([]string, many)
	for i := range l {
		size := min(len(text), api.SealMost)
		l[i], text = text[:size], text[size:]
	}
	return l
}
