package journal

import (
	"iter"
	"strings"

	"saltus/api"
	"saltus/codec"
)

// The bytes that a record has beside its text: how long that is, and the next number.
const (
	lengthSize = 2
	numberSize = 8
)

// records are those that stand whole in a chain behind a number, from the first byte on: each one's text, and its number.
func records(key string, last uint64, log string) iter.Seq2[string, uint64] {
	return func(yield func(string, uint64) bool) {
		ahead, rest := last, log
		for {
			s, is := firstText(rest)
			if !is {
				return
			}
			record, number, e := Record(key, ahead, s)
			if e != api.OK || !strings.HasPrefix(rest, record) || !yield(s, number) {
				return
			}
			ahead, rest = number, rest[len(record):]
		}
	}
}

// firstText is the text that stands at the beginning of some bytes, and whether there is one with more bytes behind it, as a record's number is.
func firstText(log string) (string, bool) {
	// Of more bytes than one text's, Split tells where the text ends; of a text alone, or of none, 0.
	_, end, _ := codec.Split(log, "t")
	if end == 0 {
		return "", false
	}
	// Cloned, so that a short text does not keep a long journal.
	return strings.Clone(log[lengthSize:end]), true
}

// sizeOf is how many bytes a text's record has.
func sizeOf(s string) int { return lengthSize + len(s) + numberSize }
