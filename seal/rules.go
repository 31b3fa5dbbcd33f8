package seal

import "saltus/api"

// rule is whether something is as it must be, and what is told if it is not.
type rule struct {
	kept bool
	why  api.Errno
}

// refusal is what is told for the first of some rules that is not kept, and OK if all are.
func refusal(rules ...rule) api.Errno {
	for _, r := range rules {
		if !r.kept {
			return r.why
		}
	}
	return api.OK
}

// isSector tells whether a number is a sector's.
func isSector(at int) bool { return at >= 0 && at < api.MaxSectors }

// isKind tells whether a number is a kind of sealed sectors.
func isKind(kind int) bool {
	return kind == api.SealData || kind == api.SealMeta || kind == api.SealHead
}

// isKey tells whether a text is as long as a key.
func isKey(key string) bool { return len(key) == shortKey || len(key) == longKey }
