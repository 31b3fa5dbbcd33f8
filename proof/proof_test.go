package proof_test

import (
	"encoding/hex"
	"math"
	"slices"
	"strconv"
	"strings"
	"testing"

	"saltus/api"
	"saltus/codec"
	"saltus/label"
	"saltus/proof"
	"saltus/sha"
)

// key is the key where no other is asked for.
const key = "a key"

// text is a text of so many bytes.
func text(many int) string { return strings.Repeat("t", many) }

// filled is a key of so many bytes.
func filled(many int) string { return strings.Repeat("k", many) }

// item is an item of a number, and of a text that tells the number.
func item(n uint64) api.Item { return api.Item{Key: n, Val: "of " + strconv.FormatUint(n, 10)} }

// items are items of some numbers, in order.
func items(numbers ...uint64) []api.Item {
	var l []api.Item
	for _, n := range numbers {
		l = append(l, item(n))
	}
	return l
}

// rising is a list of so many items, the first one of a number, each next one's more by a step.
func rising(many int, first, step uint64) []api.Item {
	l := make([]api.Item, many)
	for i := range l {
		l[i] = item(first + uint64(i)*step)
	}
	return l
}

// with is a list with another Val at a place.
func with(l []api.Item, at int, val string) []api.Item {
	l = slices.Clone(l)
	l[at].Val = val
	return l
}

// some are so many labels, no two of them the same.
func some(many int) []string {
	l := make([]string, many)
	for i := range l {
		l[i] = sum(text(i))
	}
	return l
}

// of is some labels with another text at a place.
func of(l []string, at int, s string) []string {
	l = slices.Clone(l)
	l[at] = s
	return l
}

// unhex is a text that is told by its bytes' digits.
func unhex(t *testing.T, s string) string {
	t.Helper()
	b, err := hex.DecodeString(s)
	if err != nil {
		t.Fatal(err)
	}
	return string(b)
}

// nine is a list of the heights 5, 2, 7, 3, 1, 4, 6, 8 and 8 by key.
func nine() []api.Item { return items(0, 1, 3, 5, 9, 18, 65, 130, 146) }

// cubes are 64 items.
func cubes() []api.Item {
	l := make([]api.Item, 64)
	for i := range l {
		l[i] = item(uint64(i * i * i))
	}
	return l
}

// edges are items of numbers at edges.
func edges() []api.Item {
	return items(0, 1, 255, 256, 1<<32-1, 1<<32, 1<<63-1, 1<<63, math.MaxUint64-1, math.MaxUint64)
}

// prove is a number's proof that is there.
func prove(t *testing.T, key string, l []api.Item, k uint64) api.Proof {
	t.Helper()
	p, e := proof.Prove(key, l, k)
	if e != api.OK {
		t.Fatalf("Prove by %.20q of %v in %v = %v", key, k, show(l), e)
	}
	return p
}

// rows are so many rows, each of so many labels.
func rows(many, labels int) [][]string {
	l := make([][]string, many)
	for i := range l {
		l[i] = some(labels)
	}
	return l
}

// plain is a proof of so many rows, ahead and behind, each of so many labels.
func plain(before, after, labels int) api.Proof {
	return api.Proof{Before: rows(before, labels), After: rows(after, labels)}
}

// proofWith is a proof with another row, of a level, ahead (side 0) or behind (side 1).
func proofWith(p api.Proof, side, level int, row []string) api.Proof {
	p = cloned(p)
	if side == 0 {
		p.Before[level] = row
	} else {
		p.After[level] = row
	}
	return p
}

// rowAt is a proof's row so.
func rowAt(p api.Proof, side, level int) []string {
	if side == 0 {
		return p.Before[level]
	}
	return p.After[level]
}

// The chapter's example: in a list of one item of height 1 the first row has the head's label ahead, and none behind.
func TestExample(t *testing.T) {
	first, e := label.Row(key, nil, 0)
	if len(first) != 1 || e != api.OK {
		t.Fatal(told(first...), e)
	}
	for _, x := range []struct {
		key string
		n   uint64
	}{{key, 9}, {key, 11}, {"", 0}} {
		if height(x.key, x.n) != 1 {
			t.Fatalf("%v by %q is not of height 1", x.n, x.key)
		}
		p, e := proof.Prove(x.key, items(x.n), x.n)
		if e != api.OK || len(p.Before) != 8 || len(p.After) != 8 || !slices.Equal(p.Before[0], first) || len(p.After[0]) != 0 {
			t.Errorf("Prove of %v by %q = %v, %v", x.n, x.key, toldProof(p), e)
		}
	}
}

// P18.1

// grouped are lists, one of their numbers, and what stands ahead of its label and behind it on the levels 0 to 7, by key, told by hand from their items' heights: each by its number (h: the head).
var grouped = []struct {
	what   string
	l      []api.Item
	k      uint64
	levels string
}{
	{"one of 1", items(9), 9, "h|,|,|,|,|,|,|,|"},
	{"one of 2", items(1), 1, "|,h|,|,|,|,|,|,|"},
	{"one of 3", items(5), 5, "|,|,h|,|,|,|,|,|"},
	{"one of 4", items(18), 18, "|,|,|,h|,|,|,|,|"},
	{"one of 5", items(0), 0, "|,|,|,|,h|,|,|,|"},
	{"one of 6", items(65), 65, "|,|,|,|,|,h|,|,|"},
	{"one of 7", items(3), 3, "|,|,|,|,|,|,h|,|"},
	{"one of 8", items(130), 130, "|,|,|,|,|,|,|,h|"},
	{"the first of 1 and 1", items(9, 11), 9, "h|11,|,|,|,|,|,|,|"},
	{"the second of 1 and 1", items(9, 11), 11, "h 9|,|,|,|,|,|,|,|"},
	{"the first of 1 and 8", items(9, 130), 9, "h|,|,|,|,|,|,|,|130"},
	{"the second of 1 and 8", items(9, 130), 130, "|,|,|,|,|,|,|,h|"},
	{"the first of 8 and 8", items(130, 146), 130, "|,|,|,|,|,|,|,h|146"},
	{"the second of 8 and 8", items(130, 146), 146, "|,|,|,|,|,|,|,h 130|"},
	{"the second of 8 and 1", items(130, 237), 237, "130|,|,|,|,|,|,|,h|"},
	{"the second of 8 and 2", items(130, 236), 236, "|,130|,|,|,|,|,|,h|"},
	{"the first of 8 and 1", items(130, 237), 130, "|237,|,|,|,|,|,|,h|"},
	{"5 of nine", nine(), 0, "|,|1,|,|,h|,|,|3,|130 146"},
	{"2 of nine", nine(), 1, "|,0|,|,|,h|,|,|3,|130 146"},
	{"7 of nine", nine(), 3, "|,|,|5,|18,|,|65,h|,|130 146"},
	{"3 of nine", nine(), 5, "|9,|,3|,|18,|,|65,h|,|130 146"},
	{"1 of nine", nine(), 9, "5|,|,3|,|18,|,|65,h|,|130 146"},
	{"4 of nine", nine(), 18, "|,|,|,3|,|,|65,h|,|130 146"},
	{"6 of nine", nine(), 65, "|,|,|,|,|,3|,h|,|130 146"},
	{"8 of nine", nine(), 130, "|,|,|,|,|,|,|,h|146"},
	{"the last of nine", nine(), 146, "|,|,|,|,|,|,|,h 130|"},
	{"all of 1, the first", items(9, 11, 12, 14, 15, 19), 9, "h|11 12 14 15 19,|,|,|,|,|,|,|"},
	{"all of 1, one between", items(9, 11, 12, 14, 15, 19), 14, "h 9 11 12|15 19,|,|,|,|,|,|,|"},
	{"all of 1, the last", items(9, 11, 12, 14, 15, 19), 19, "h 9 11 12 14 15|,|,|,|,|,|,|,|"},
	{"all of 8, the first", items(130, 146, 217, 253), 130, "|,|,|,|,|,|,|,h|146 217 253"},
	{"all of 8, one between", items(130, 146, 217, 253), 217, "|,|,|,|,|,|,|,h 130 146|253"},
	{"all of 8, the last", items(130, 146, 217, 253), 253, "|,|,|,|,|,|,|,h 130 146 217|"},
	{"falling, 8", items(130, 158, 203, 212, 227, 233, 236), 130, "|,|,|,|,|,|,|158,h|"},
	{"falling, 1", items(130, 158, 203, 212, 227, 233, 236, 237), 237, "236|,233|,227|,212|,203|,158|,130|,h|"},
	{"rising, 1", items(9, 10, 13, 18, 78, 103, 158, 217), 9, "h|,|10,|13,|18,|78,|103,|158,|217"},
	{"rising, 4", items(9, 10, 13, 18, 78, 103, 158, 217), 18, "|,|,|,h|,|78,|103,|158,|217"},
	{"rising, 8", items(9, 10, 13, 18, 78, 103, 158, 217), 217, "|,|,|,|,|,|,|,h|"},
}

// labelsOf are the labels of a level that stand for a row's numbers, and h for the head's.
func labelsOf(t *testing.T, l []api.Item, level int, names string) []string {
	t.Helper()
	row, e := label.Row(key, l, level)
	if e != api.OK {
		t.Fatal(e)
	}
	of := map[string]string{"h": row[0]}
	at := 1
	for _, x := range l {
		if height(key, x.Key) > level {
			of[strconv.FormatUint(x.Key, 10)] = row[at]
			at++
		}
	}
	var labels []string
	for _, name := range strings.Fields(names) {
		if of[name] == "" {
			t.Fatalf("level %v: %v has no label", level, name)
		}
		labels = append(labels, of[name])
	}
	return labels
}

// Each row has the labels, of its level, of those that it should.
func TestProveByHand(t *testing.T) {
	for _, x := range grouped {
		p := prove(t, key, x.l, x.k)
		if len(p.Before) != 8 || len(p.After) != 8 {
			t.Fatalf("%v: %v rows, and %v", x.what, len(p.Before), len(p.After))
		}
		levels := strings.Split(x.levels, ",")
		if len(levels) != 8 {
			t.Fatalf("%v: %v levels are told", x.what, len(levels))
		}
		for level, names := range levels {
			before, after, _ := strings.Cut(names, "|")
			if want := labelsOf(t, x.l, level, before); !slices.Equal(p.Before[level], want) {
				t.Errorf("%v: Before of level %v = %v, want %v", x.what, level, told(p.Before[level]...), told(want...))
			}
			if want := labelsOf(t, x.l, level, after); !slices.Equal(p.After[level], want) {
				t.Errorf("%v: After of level %v = %v, want %v", x.what, level, told(p.After[level]...), told(want...))
			}
		}
		checkProve(t, key, x.l, x.k)
	}
}

// Proofs, told beside the program, by another one, by the first bytes of each label.
func TestProveAsPrinted(t *testing.T) {
	for _, x := range []struct {
		l      []api.Item
		k      uint64
		levels [8]string
	}{
		{items(9), 9, [8]string{"4bf5122f344554c5|", "|", "|", "|", "|", "|", "|", "|"}},
		{items(3, 5, 9), 5, [8]string{"|2fa5b984f3dc407c", "|", "64ad5f73f5d66f4d|", "|", "|", "|", "5a6842cbaf666d06|", "|"}},
		{nine(), 9, [8]string{
			"6cb918d0fbecc42f|",
			"|",
			"64ad5f73f5d66f4d|",
			"|39d611172bf3d8d1",
			"|",
			"|5271b13d49cbcecf",
			"8e2960406161c604|",
			"|d981e718d79862f8 6d84c54f25b7dbf2",
		}},
		{nine(), 65, [8]string{"|", "|", "|", "|", "|", "f61fff64a44e0298|", "8e2960406161c604|", "|d981e718d79862f8 6d84c54f25b7dbf2"}},
	} {
		p := prove(t, key, x.l, x.k)
		for level, want := range x.levels {
			if got := firsts(p.Before[level]) + "|" + firsts(p.After[level]); got != want {
				t.Errorf("Prove of %v in %v, level %v = %v, want %v", x.k, show(x.l), level, got, want)
			}
		}
	}
}

// firsts are labels' first bytes, in digits.
func firsts(labels []string) string {
	var first []string
	for _, s := range labels {
		first = append(first, hex.EncodeToString([]byte(s[:8])))
	}
	return strings.Join(first, " ")
}

// printed are sums of proofs, and of their steps, told beside the program, by another one: of each level how many labels are ahead, they, how many are behind, and they; and of each step its size, and it.
var printed = []struct {
	key          string
	l            []api.Item
	k            uint64
	proof, steps string
}{
	{"a key", items(0), 0, "535f24d8ab2e41aae5e2deb8bd31674e5a5bd8e58e5f105a761920256908ff37", "3b952606959f8406da1ab0282c21eec9fcbe34a6a1edfa9e4a9eef3a9f4c32d5"},
	{"", items(0), 0, "6c2d7c6baf626cc4a8f9eb77971eba2cba4a8bacd7e29aedc7efe74dc0b31cec", "d659df5f02561621111eab31f708091e4468e5cef69a53b04a8de78b2e4083bc"},
	{"a key", items(9), 9, "6c2d7c6baf626cc4a8f9eb77971eba2cba4a8bacd7e29aedc7efe74dc0b31cec", "06559741689e128e9189bddd35f589f2ca6d4f9a92ce862446160ff49d015bab"},
	{"a key", items(130), 130, "90854e7a395c77a749f0a527d2798f3e0589b19e61aa40f33445d0925a6db01b", "7a75490c2cdcd2e85c2d7f4bf7b9f28bd9d95bf69acbf18f5d3f7b464ea88a03"},
	{"", items(3, 5, 9), 3, "043579fbaea3277c440444d64334966a57cdc205858c1e8eee6a39d7a376d132", "715ccd39e21a56960f5a933d5b21be9fc0c0140a01afce56fbd2c29e7675ba23"},
	{"", items(3, 5, 9), 5, "e682e3ee4ec561886f2a2cc6a53835a3375e763a7e5d7af3c9ba4bea409fca56", "40af4e4eaddfb1b3fbf61e814599de7654e9c8019b023a6c59f5ac9e982aacf5"},
	{"", items(3, 5, 9), 9, "c2f155ee1d62c2f6c372c7c2d62f1bada2af6a4381ed0b9872aa775b2a8a4667", "1533c4c7ab7d9592f5146067780811fc3209b85a823b0d519a2f1d667b758e0c"},
	{"a key", items(3, 5, 9), 3, "0bb369aa6e59428ddae302f0e19e78d837b4857a93b0493d4f3239ff5ae96b2e", "71a1d38e2b967ec4bcc6516cf7189fa13521b43946f85081a8db525ccbb0a98f"},
	{"a key", items(3, 5, 9), 5, "084a0962aae7ddf34257fdff6a91857143ede45eabdcc4f61d7b80cbdc410166", "7047acc3c03007c3fa51c8aa2554f52070c9cfbe2661e347ae6153462efaf246"},
	{"a key", items(3, 5, 9), 9, "2cab3fcfed2aa2007a423728400228ed1ceead536a364a0234a6b54bda0a70ac", "6b21b068a36bcb15366f7f47b95f5108a682e3c8b04f878e0644031829a4e52f"},
	{"another key", items(3, 5, 9), 5, "d15749f060c24a6c4e6cbec6308fa53fa4bcea34dadb5acc67cd3aadbd14e52f", "9b30d2b53984aca2e39138231c069a05032415a6f46f0daf4cb54fd8d9e9e2bd"},
	{"a key", nine(), 0, "c867ab2f1b45a9e6e8fe282a49b669ef6b32b3f464b3f0a14a3a877131c5a739", "91e031500bbd77c229a579906ee32889f89c1811fde5af6e95f48f2e3a353981"},
	{"a key", nine(), 1, "219f73cc6d1a618555e1e3eed8581eb4b2a6f8938da91922a9aae95bbb917f9b", "86e230b4c4b98a6147bd9b4c246092c476d540ab6de726182e2effae5e5556d6"},
	{"a key", nine(), 3, "eeceffa6bdfc4d3d22bea8dc7f097cbccfc44fbec47da823f9709386b6ae6084", "972da9432c7a3b7516e05c2c723867203182f6043daccf556bf7ea1bad6b1b92"},
	{"a key", nine(), 5, "16e36c28c2e3450b2dc609375d38b22c705aa7766f552a1fa3add1ccdd8f9b4a", "8125dcad1e23794c97c3bb87b6711ef9da34ca5fabdad6055e7888ba9cfa34d1"},
	{"a key", nine(), 9, "5088a26f65afae27020c1c2a43dc3400b3beffb244cd6dc98a2586e668b96816", "1cf00ef62af90a8cc50e908f038a36799a9cd0279ab8cf40b66ed80b2e7f2c22"},
	{"a key", nine(), 18, "1d50b2332bf90f6c40bd860c31ce204a9f3d3371e7f0575d4acdb48d41b2dc53", "3252c4eb8dc076ccd1107a891ac49eb9ecf44ddcc7e3aaf55a5001058236e11e"},
	{"a key", nine(), 65, "07bf155d0ebb2635ba39f71fc6676509b71238d353ae8aaa328edce2069a3f89", "a33df2933b64766ba2af81883383fefa4af7ccb39a1a6e35a6f9e878aa101084"},
	{"a key", nine(), 130, "e4103fe6c4c67e69f4b3d5334e8f95d1be1dd80daacd504c7d9317102d41c24c", "a7d7eb758cd0869ba33f6262f9e7030510fcc87101a5120ccd625bac9600d9c4"},
	{"a key", nine(), 146, "1e8bf0538748c33f277495133faf9f6e54d1c347c207cad7c66c64b5005a858b", "ee4ce2fdb1040092fda2335a6e31f61301376ca80ad07ba3a99838dd81785d43"},
	{"", nine(), 0, "f59df308b571edc0096bf523638e35da447f4719df1ed18ee4e2b3eb86daac98", "33b516d2874b0f9d8177efe1eec16900fc3d629028b6c72e45b9acc26be25b98"},
	{"", nine(), 9, "7facc67ddb3ea5db3a37bed4bb7002bdaa24f54af55f337e3e4f55cf4aaa85a5", "6929524415869cb760d71483ac4be7b51c0c509ffdb52e39e16c327352b564eb"},
	{"", nine(), 146, "18696b5cf3130c5ab3737724a2a9ec098d0c47890a62f1044b782d8829c29d5e", "89a650b7658c534951c793d8803b385a20423fd4c91cc5dd17a9d7ab0803d617"},
	{"a key", cubes(), 0, "25ee0df1f9653f2082101873ec26c4500144edeccfee30afa4e056c697e1a73b", "79be5102c632f76fb031a75c1c5cfa3d19fe65cec3673838b89bd8ef787904ae"},
	{"a key", cubes(), 1, "21b35f7eb61e6848ce091b44f7e6968ff3257309000ed6369e49aa249ff370e8", "3aaf02877af4103f95dcb75214c7bf18c5df6958f8f0d12509e54aca1335527e"},
	{"a key", cubes(), 8, "aba7aa7657c5c0249ed1c99bb601a48da6df4d7c3ff8594af4c4f9d74cfaec0e", "6537da0ed78cda38e567a81697b157db19f4e34ce8bf3e915f43d794940e6e4c"},
	{"a key", cubes(), 29791, "3324d95faa9afb95b5c709f768654d8e4a690f334e5d48e1526acfd3cc33ebcb", "ad0829cd1e626cd9cf366ce3973281a45ab6b968085deb3a9667c89d631c0e04"},
	{"a key", cubes(), 32768, "eaf8640e448073597ca4cc97e7fb44d3b6ca6f39348786b9251751bac0954592", "ee777baee73b49327599b373298643729f10104be28cf3f56492cea989748167"},
	{"a key", cubes(), 250047, "e63c739b4d015dee4e251b9daad5620e3e1b21dfa3905a7eb6af66fbcd40b4fb", "f32d4084a22b6808f9e7a99a43c6feffc3fbfbfc75394a43995385454bde3747"},
	{"", cubes(), 0, "bbe174f865a43b845e98acb06d9dd976b3940b5e1456094a383a5e468e4c3072", "bc4e31acf3be8f0a189cc362188998072aa6c4a78916326eabdba8c8e087aa7f"},
	{"", cubes(), 29791, "efab1e135834e12ad1ae9ad0b6497c67a1e05ca78a469aa32375707aa4390f72", "4439ac71c2f0fcf44646d0555922984361a691535857d93a7259b14c783a8ee2"},
	{"", cubes(), 250047, "cb977630f08a183bf533f1047a2b9bb7a9ae3ec227a1aba311f66394386d97cb", "1380bdb0e69b85710cf3537bb5f0e2a6bdc6040fa1577e5a912d2045369ffeb5"},
	{"another key", cubes(), 27, "d4d52fb24431a98a318793f4463e5a97176082bc33ad70d9baa19dc44f9acccd", "7fdcc50f8f6a808f6cdc34bad2fb75f6821fada2f14e992044e2f97367a29aff"},
	{"a key", edges(), 0, "3815e9a46141576f2b9b1c9df6162c8ba52860677f08537087f8dc937b63a8ab", "e06a45e761eafcd1419c730dcf2849734e1027b62bc16e9e6dad30340ae332bd"},
	{"a key", edges(), 4294967296, "25f53027b19570dbf30e21f5ba90a48fc964bbd50872634d3d2ba193d7015400", "7c00a660f94ea9eb4fd69d05f219f8c4c6ea9b3a931fcceb40afa21c4208bc66"},
	{"a key", edges(), 9223372036854775808, "ee34ba028cf0b0374cc1ec830c34a76b4a300b4174fce8e2ca63ae740a8603ae", "69ccb1212c93f543d1763e3d6cf976e0d5f6893f8e2b68c51f907ef2908af77f"},
	{"a key", edges(), 18446744073709551615, "3ecb06a5c8ee367983a20ef833b5ffd6d4a57b2555338504d5559dc7bb39e916", "3e0192dc30f16158ead37b1db1c7d6ef60e208750c37b4d047de91ea12ef2b3b"},
	{"\xff\x80\xc3", edges(), 18446744073709551615, "13f494371d76a010395a4d46510250fbfe7007d8c96e86b8b6fc59ee28bb4cac", "0bc07831af0bafb06d048a9ad98e3cd5fd79a75e885d0064717c15b5e42fc38b"},
	{filled(64), edges(), 255, "158eef2703ea51923dc75ed19a43bda2dfa3d8b226ea94fba03ae259710e01fe", "1fe051f164845b03f10436c23ece10f7f2aee4beec10bee043907c527f64e716"},
	{filled(65), edges(), 256, "b49324cfeba614188e1574ea8022c4ff77468e5e3c9d1de0fb414fbed14c05a7", "4a7bb2e59c9234dfede4e50016974c5e66e79390ab287db68a61a66003fa100e"},
}

func TestSumsAsPrinted(t *testing.T) {
	for _, x := range printed {
		p := prove(t, x.key, x.l, x.k)
		all := ""
		for level := range 8 {
			for _, row := range [][]string{p.Before[level], p.After[level]} {
				all += string([]byte{byte(len(row))}) + strings.Join(row, "")
			}
		}
		if got := sum(all); got != unhex(t, x.proof) {
			t.Errorf("Prove by %.20q of %v in %v = %v of sum %x, want %v", x.key, x.k, show(x.l), toldProof(p), got, x.proof)
		}
		at := slices.IndexFunc(x.l, func(i api.Item) bool { return i.Key == x.k })
		steps, e := proof.Steps(x.l[at], p)
		all = ""
		for _, s := range steps {
			all += number(uint64(len(s))) + s
		}
		if got := sum(all); got != unhex(t, x.steps) || e != api.OK {
			t.Errorf("Steps by %.20q of %v in %v = %v of sum %x, %v, want %v", x.key, x.k, show(x.l), told(steps...), got, e, x.steps)
		}
		root, _ := label.Root(x.key, x.l)
		if is, e := proof.Check(root, x.l[at], p); !is || e != api.OK {
			t.Errorf("Check by %.20q of %v in %v = %v, %v", x.key, x.k, show(x.l), is, e)
		}
	}
}

// wrongs are lists that may not be, by the reason.
func wrongs() map[string][]api.Item {
	return map[string][]api.Item{
		"the same number twice":           items(7, 7),
		"0 twice":                         items(0, 0),
		"the greatest twice":              items(math.MaxUint64, math.MaxUint64),
		"the last number twice":           items(1, 2, 3, 3),
		"two that fall":                   items(8, 7),
		"the first two fall":              items(2, 1, 3, 4),
		"the last two fall":               items(1, 2, 4, 3),
		"2^63 ahead of 2^63 less 1":       items(1<<63, 1<<63-1),
		"64 items, the last two the same": append(rising(63, 0, 1), item(62)),
		"65 items":                        rising(65, 0, 1),
		"66 items":                        rising(66, 0, 2),
		"320 items":                       rising(320, 0, 1),
		"a text of 65 bytes":              with(items(1), 0, text(65)),
		"the first text of 65 bytes":      with(items(1, 2, 3), 0, text(65)),
		"the last text of 65 bytes":       with(items(1, 2, 3), 2, text(65)),
		"a text of 4097 bytes":            with(items(1, 2, 3), 1, text(4097)),
	}
}

// The list's error comes first, whether it has the number or not.
func TestProveInListsThatMayNotBe(t *testing.T) {
	for what, l := range wrongs() {
		if mayBe(l) {
			t.Errorf("%v: the model says that it may be", what)
		}
		for _, key := range []string{"", key, text(65)} {
			for _, k := range []uint64{0, 1, 2, 3, 7, 62, l[0].Key, l[len(l)-1].Key, 1 << 40, math.MaxUint64 - 1, math.MaxUint64} {
				checkNoProof(t, key, l, k, api.ErrArg)
			}
		}
	}
}

func TestProveOfNumbersThatAreNotThere(t *testing.T) {
	for _, key := range []string{"", key, text(65)} {
		for _, l := range [][]api.Item{nil, {}, items(7), items(3, 5, 9), nine()[1:], rising(63, 2, 2), rising(64, 2, 2), rising(64, 1<<63+1, 1<<50)} {
			numbers := []uint64{0, math.MaxUint64}
			for _, x := range l {
				numbers = append(numbers, x.Key-1, x.Key+1, x.Key^1<<63, x.Key^1<<32)
			}
			for _, k := range numbers {
				if slices.ContainsFunc(l, func(x api.Item) bool { return x.Key == k }) {
					continue
				}
				checkNoProof(t, key, l, k, api.ErrNone)
			}
		}
	}
}

// The first number, the last one and all between, 0 and the greatest among them, of lists and by keys at edges.
func TestProveByKeys(t *testing.T) {
	for _, key := range []string{"", "\x00", "a\x00key", "a key\x00", "\xff\x80\xc3", text(64), text(65), text(5000)} {
		for _, l := range [][]api.Item{{{}}, items(math.MaxUint64), items(0, math.MaxUint64), items(3, 5, 9), edges(), with(nine(), 4, text(64))} {
			for _, x := range l {
				checkProve(t, key, l, x.Key)
			}
		}
	}
}

// Each item of long lists has its proof.
func TestProveInLongLists(t *testing.T) {
	for _, x := range cubes() {
		checkProve(t, key, cubes(), x.Key)
	}
	for _, l := range [][]api.Item{rising(63, 0, 1), rising(64, 0, 1), rising(64, 5, 1<<57), rising(64, math.MaxUint64-63, 1)} {
		for _, at := range []int{0, 1, 31, 32, 61, 62, len(l) - 1} {
			checkProve(t, "", l, l[at].Key)
		}
	}
}

// A row may have 64 labels: in a list of 64 items of height 1 the last one's proof has all others ahead of it, and the first one's all but the head's behind.
func TestProveInTheLongestGroup(t *testing.T) {
	var low []api.Item
	for n := uint64(0); len(low) < 64; n++ {
		if height(key, n) == 1 {
			low = append(low, item(n))
		}
	}
	for at, x := range low {
		p := prove(t, key, low, x.Key)
		if len(p.Before[0]) != at+1 || len(p.After[0]) != 63-at {
			t.Errorf("Prove of the item at %v: %v ahead, %v behind", at, len(p.Before[0]), len(p.After[0]))
		}
	}
	checkProve(t, key, low, low[0].Key)
	checkProve(t, key, low, low[63].Key)
}

// Proofs hang on the key, and Vals: of items beside one the labels change, and of itself none does.
func TestProofHangsOnOthersVals(t *testing.T) {
	l := items(9, 11, 12, 14)
	p := prove(t, key, l, 12)
	if !proof.Like(p, prove(t, key, with(l, 2, "another"), 12)) {
		t.Error("the proof of an item hangs on its own Val")
	}
	for _, at := range []int{0, 1, 3} {
		if proof.Like(p, prove(t, key, with(l, at, "another"), 12)) {
			t.Errorf("the proof of an item does not hang on the Val at %v", at)
		}
	}
	if proof.Like(p, prove(t, "", l, 12)) {
		t.Error("the proof does not hang on the key")
	}
}

// Like, by hand.
func TestLike(t *testing.T) {
	p := prove(t, key, nine(), 9)
	for _, x := range []struct {
		what string
		a, b api.Proof
		want bool
	}{
		{"none", api.Proof{}, api.Proof{}, true},
		{"no rows, and none", api.Proof{}, api.Proof{Before: [][]string{}, After: [][]string{}}, true},
		{"an empty row, and none", plain(8, 8, 0), api.Proof{Before: make([][]string, 8), After: make([][]string, 8)}, true},
		{"itself", p, p, true},
		{"the same", p, cloned(p), true},
		{"made again", p, prove(t, key, nine(), 9), true},
		{"one of no rows", p, api.Proof{}, false},
		{"no Before", p, api.Proof{After: p.After}, false},
		{"no After", p, api.Proof{Before: p.Before}, false},
		{"the sides changed over", p, api.Proof{Before: p.After, After: p.Before}, false},
		{"another's", p, prove(t, key, nine(), 65), false},
		{"a row more, ahead", plain(8, 8, 1), plain(9, 8, 1), false},
		{"a row more, behind", plain(8, 8, 1), plain(8, 9, 1), false},
		{"a row less, ahead", plain(8, 8, 1), plain(7, 8, 1), false},
		{"a row less, behind", plain(8, 8, 1), plain(8, 7, 1), false},
		{"an empty row more, ahead", plain(0, 0, 0), plain(1, 0, 0), false},
		{"an empty row more, behind", plain(0, 0, 0), plain(0, 1, 0), false},
		{"a row on the other side", plain(1, 0, 1), plain(0, 1, 1), false},
		{"as many labels in other rows", api.Proof{Before: [][]string{some(2), nil}}, api.Proof{Before: [][]string{some(1), some(2)[1:]}}, false},
		{"labels joined", api.Proof{Before: [][]string{{"ab", "c"}}}, api.Proof{Before: [][]string{{"a", "bc"}}}, false},
		{"an empty label", api.Proof{Before: [][]string{{""}}}, api.Proof{Before: [][]string{{}}}, false},
		{"that may not be, the same", plain(3, 11, 70), plain(3, 11, 70), true},
		{"that may not be, of other sizes", plain(3, 11, 70), plain(3, 11, 71), false},
		{"a label of no bytes, the same", proofWith(p, 0, 7, []string{""}), proofWith(p, 0, 7, []string{""}), true},
		{"a label of one byte, another", proofWith(p, 0, 7, []string{"a"}), proofWith(p, 0, 7, []string{"b"}), false},
	} {
		if one, other := proof.Like(x.a, x.b), proof.Like(x.b, x.a); one != x.want || other != x.want {
			t.Errorf("%v: Like = %v, and %v, want %v", x.what, one, other, x.want)
		}
		checkLike(t, x.a, x.b)
	}
}

// Each single label counts, ahead and behind, on each level, and each row.
func TestLikeOfEachLabelAndRow(t *testing.T) {
	p := plain(8, 8, 3)
	for side := range 2 {
		for level := range 8 {
			row := rowAt(p, side, level)
			for at := range row {
				checkUnlike(t, p, proofWith(p, side, level, of(row, at, sum("another"))))
				checkUnlike(t, p, proofWith(p, side, level, of(row, at, flipped(row[at], 255))))
				checkUnlike(t, p, proofWith(p, side, level, of(row, at, row[at][:31])))
				checkUnlike(t, p, proofWith(p, side, level, of(row, at, "")))
				checkUnlike(t, p, proofWith(p, side, level, slices.Delete(slices.Clone(row), at, at+1)))
				checkUnlike(t, p, proofWith(p, side, level, slices.Insert(slices.Clone(row), at, row[at])))
			}
			checkUnlike(t, p, proofWith(p, side, level, []string{row[1], row[0], row[2]}))
			checkUnlike(t, p, proofWith(p, side, level, nil))
			checkLike(t, p, proofWith(p, side, level, slices.Clone(row)))
		}
	}
}

// checkUnlike holds that two proofs are not the same.
func checkUnlike(t *testing.T, a, b api.Proof) {
	t.Helper()
	if proof.Like(a, b) || proof.Like(b, a) {
		t.Errorf("Like of %v and %v: true", toldProof(a), toldProof(b))
	}
}

// P18.2

// Of a proof of no labels each step joins the label ahead alone.
func TestStepsByHand(t *testing.T) {
	x := api.Item{Key: 258, Val: "ab"}
	want := []string{"\x00\x02\x01\x00\x00\x00\x00\x00\x00\x02\x00ab"}
	for level := 1; level <= 8; level++ {
		want = append(want, "\x02"+codec.Number(uint64(level))+sha.Sum(want[level-1]))
	}
	for _, p := range []api.Proof{plain(8, 8, 0), {Before: make([][]string, 8), After: make([][]string, 8)}} {
		if got, e := proof.Steps(x, p); !slices.Equal(got, want) || e != api.OK {
			t.Errorf("Steps = %v, %v, want %v", told(got...), e, told(want...))
		}
		if is, e := proof.Check(sha.Sum(want[8]), x, p); !is || e != api.OK {
			t.Errorf("Check = %v, %v, want true", is, e)
		}
	}
	// With a label ahead on each level, and two behind.
	p := api.Proof{}
	a, b, c := sha.Sum("a"), sha.Sum("b"), sha.Sum("c")
	for level := 1; level <= 8; level++ {
		p.Before = append(p.Before, []string{a})
		p.After = append(p.After, []string{b, c})
		want[level] = "\x02" + codec.Number(uint64(level)) + a + sha.Sum(want[level-1]) + b + c
	}
	if got, e := proof.Steps(x, p); !slices.Equal(got, want) || e != api.OK {
		t.Errorf("Steps = %v, %v, want %v", told(got...), e, told(want...))
	}
	if is, e := proof.Check(sha.Sum(want[8]), x, p); !is || e != api.OK {
		t.Errorf("Check = %v, %v, want true", is, e)
	}
}

// Each step's sum is what package label tells: the item's label, and the ones joined.
func TestStepsSumsAreLabels(t *testing.T) {
	for _, l := range [][]api.Item{items(9), nine(), edges(), cubes()[:20]} {
		for _, x := range l {
			p := prove(t, key, l, x.Key)
			steps, e := proof.Steps(x, p)
			if len(steps) != 9 || e != api.OK {
				t.Fatalf("Steps of %v = %v, %v", x.Key, told(steps...), e)
			}
			own, _ := label.Leaf(x)
			for level := range 8 {
				if got := sha.Sum(steps[level]); got != own {
					t.Fatalf("the sum of step %v of %v = %v, want %v", level, x.Key, told(got), told(own))
				}
				row, _ := label.Row(key, l, level)
				if !slices.Contains(row, own) {
					t.Fatalf("the sum of step %v of %v is not in the row", level, x.Key)
				}
				own, _ = label.Join(level+1, slices.Concat(p.Before[level], []string{own}, p.After[level]))
			}
			if root, _ := label.Root(key, l); sha.Sum(steps[8]) != root || own != root {
				t.Fatalf("the last sum of %v = %v, want %v", x.Key, told(sha.Sum(steps[8])), told(root))
			}
		}
	}
}

func TestStepsOfValsOfEachSize(t *testing.T) {
	sizes := []int{66, 127, 128, 255, 256, 257, 4095, 4096, 4097, 1<<16 + 1}
	for size := range 66 {
		sizes = append(sizes, size)
	}
	for _, size := range sizes {
		for _, k := range []uint64{0, 1 << 63, math.MaxUint64} {
			checkSteps(t, api.Item{Key: k, Val: text(size)}, plain(8, 8, 0))
		}
		checkSteps(t, api.Item{Key: 1, Val: strings.Repeat("\xff", size)}, plain(8, 8, 1))
	}
	if _, e := proof.Steps(api.Item{Val: text(64)}, plain(8, 8, 1)); e != api.OK {
		t.Errorf("Steps of 64 bytes = %v", e)
	}
	checkNoSteps(t, api.Item{Val: text(65)}, plain(8, 8, 1), api.ErrSize)
}

// The Val's error comes first, whatever the proof is.
func TestStepsOfALongValTellItsSizeFirst(t *testing.T) {
	good := plain(8, 8, 2)
	for _, p := range []api.Proof{{}, good, plain(7, 8, 0), plain(8, 7, 0), plain(8, 9, 0), plain(9, 8, 0), proofWith(good, 0, 0, []string{""}), proofWith(good, 1, 7, []string{text(33)}), proofWith(good, 1, 3, some(65))} {
		for _, size := range []int{65, 66, 256, 4097} {
			checkNoSteps(t, api.Item{Key: 3, Val: text(size)}, p, api.ErrSize)
		}
		checkSteps(t, api.Item{Key: 3, Val: text(64)}, p)
	}
}

func TestStepsOfNumbersOfRows(t *testing.T) {
	x := item(3)
	for before := range 20 {
		for after := range 20 {
			for _, labels := range []int{0, 1, 64} {
				p := plain(before, after, labels)
				checkSteps(t, x, p)
				if before != 8 || after != 8 {
					checkNoSteps(t, x, p, api.ErrArg)
				}
			}
		}
	}
	for _, p := range []api.Proof{{}, {Before: [][]string{}, After: [][]string{}}, {Before: rows(8, 0)}, {After: rows(8, 0)}, {Before: rows(16, 0)}, {After: rows(16, 0)}, plain(256, 8, 0), plain(8, 264, 0)} {
		checkNoSteps(t, x, p, api.ErrArg)
	}
}

// A label of another size may not be: the first one and the last one, and one between, of each row.
func TestStepsOfLabelsOfEachSize(t *testing.T) {
	x := item(3)
	p := plain(8, 8, 3)
	for side := range 2 {
		for level := range 8 {
			for at := range 3 {
				for _, size := range []int{0, 1, 16, 31, 33, 63, 64, 65, 288} {
					checkNoSteps(t, x, proofWith(p, side, level, of(some(3), at, text(size))), api.ErrArg)
				}
				checkSteps(t, x, proofWith(p, side, level, of(some(3), at, text(32))))
			}
			for _, size := range []int{0, 31, 33} {
				checkNoSteps(t, x, proofWith(plain(8, 8, 0), side, level, []string{text(size)}), api.ErrArg)
				checkNoSteps(t, x, proofWith(p, side, level, of(some(64), 63, text(size))), api.ErrArg)
			}
			// All together have as many bytes as labels have.
			checkNoSteps(t, x, proofWith(p, side, level, []string{text(31), text(33)}), api.ErrArg)
			checkNoSteps(t, x, proofWith(p, side, level, []string{text(64), ""}), api.ErrArg)
			checkSteps(t, x, proofWith(plain(8, 8, 0), side, level, []string{text(32)}))
		}
	}
}

func TestStepsOfRowsOfEachSize(t *testing.T) {
	x := item(3)
	p := plain(8, 8, 1)
	for side := range 2 {
		for level := range 8 {
			for _, many := range []int{0, 1, 2, 63, 64, 65, 66, 128, 320} {
				other := proofWith(p, side, level, some(many))
				checkSteps(t, x, other)
				if many > 64 {
					checkNoSteps(t, x, other, api.ErrArg)
				} else if _, e := proof.Steps(x, other); e != api.OK {
					t.Errorf("Steps of a row of %v = %v", many, e)
				}
			}
			checkSteps(t, x, proofWith(p, side, level, nil))
		}
	}
	checkSteps(t, x, plain(8, 8, 64))
	checkNoSteps(t, x, plain(8, 8, 65), api.ErrArg)
}

// Proofs that no list has, but that may be: the steps are told, and shown of their own last sum alone.
func TestStepsOfOtherProofs(t *testing.T) {
	same := sha.Sum("the same")
	for _, p := range []api.Proof{plain(8, 8, 5), proofWith(plain(8, 8, 0), 0, 0, slices.Repeat([]string{same}, 64)), proofWith(plain(8, 8, 0), 1, 7, slices.Repeat([]string{same}, 64)), proofWith(plain(8, 8, 2), 1, 4, nil), {Before: rows(8, 3), After: make([][]string, 8)}, {Before: make([][]string, 8), After: rows(8, 3)}} {
		for _, x := range []api.Item{{}, item(3), {Key: math.MaxUint64, Val: text(64)}, {Key: 1 << 63, Val: "\xff\x00"}} {
			checkSteps(t, x, p)
		}
	}
}

// checkShows holds what Check tells.
func checkShows(t *testing.T, what string, root string, x api.Item, p api.Proof, want bool) {
	t.Helper()
	if is, e := proof.Check(root, x, p); is != want || e != api.OK {
		t.Errorf("%v: Check of %v and %q, of %v, by %v = %v, %v, want %v", what, x.Key, x.Val, told(root), toldProof(p), is, e, want)
	}
}

func TestCheckByHand(t *testing.T) {
	l := nine()
	root, _ := label.Root(key, l)
	x := l[4]
	p := prove(t, key, l, x.Key)
	checkShows(t, "the list's label", root, x, p, true)
	for at := range l {
		other, _ := label.Root(key, with(l, at, "another"))
		checkShows(t, "another list's label", other, x, p, false)
	}
	other, _ := label.Root("", l)
	checkShows(t, "the label by another key", other, x, p, false)
	less, _ := label.Root(key, l[:8])
	checkShows(t, "a shorter list's label", less, x, p, false)
	for _, s := range []string{"", root[:31], root[1:], root + "\x00", root + root, text(31), text(32), text(33), strings.ToUpper(hex.EncodeToString([]byte(root)))} {
		checkShows(t, "no label", s, x, p, false)
	}
	for bit := range 256 {
		checkShows(t, "a bit changed", flipped(root, bit), x, p, false)
	}
	for level := range 8 {
		row, _ := label.Row(key, l, level)
		for _, s := range row {
			checkShows(t, "a lower level's label", s, x, p, false)
		}
	}
	for _, y := range []api.Item{{Key: 10, Val: x.Val}, {Key: 8, Val: x.Val}, {Key: x.Key}, {Key: x.Key, Val: x.Val + "\x00"}, {Key: x.Key, Val: x.Val[:3]}, {Val: x.Val}, {}, {Key: x.Key | 1<<63, Val: x.Val}} {
		checkShows(t, "another item", root, y, p, false)
	}
	for _, y := range l {
		checkShows(t, "an item of the list", root, y, p, y == x)
		checkShows(t, "another item's proof", root, x, prove(t, key, l, y.Key), y == x)
	}
}

// A label more, one less and one changed, wherever it stands: the proof shows its item no more.
func TestCheckOfProofsWithAnotherLabel(t *testing.T) {
	l := items(9, 11, 12, 14, 130, 146, 217)
	root, _ := label.Root(key, l)
	for _, x := range []api.Item{l[0], l[1], l[3], l[4], l[6]} {
		p := prove(t, key, l, x.Key)
		for side := range 2 {
			for level := range 8 {
				row := rowAt(p, side, level)
				for at := range len(row) + 1 {
					for _, s := range []string{sum("another"), root, text(32)} {
						checkShows(t, "one more", root, x, proofWith(p, side, level, slices.Insert(slices.Clone(row), at, s)), false)
					}
				}
				for at, s := range row {
					checkShows(t, "one less", root, x, proofWith(p, side, level, slices.Delete(slices.Clone(row), at, at+1)), false)
					checkShows(t, "one twice", root, x, proofWith(p, side, level, slices.Insert(slices.Clone(row), at, s)), false)
					checkShows(t, "one changed", root, x, proofWith(p, side, level, of(row, at, sum("another"))), false)
					for _, bit := range []int{0, 7, 8, 128, 255} {
						checkShows(t, "a bit changed", root, x, proofWith(p, side, level, of(row, at, flipped(s, bit))), false)
					}
					checkNoSteps(t, x, proofWith(p, side, level, of(row, at, s[:31])), api.ErrArg, root)
					checkNoSteps(t, x, proofWith(p, side, level, of(row, at, s+"\x00")), api.ErrArg, root)
				}
				if len(row) > 1 {
					turned := slices.Clone(row)
					slices.Reverse(turned)
					checkShows(t, "turned", root, x, proofWith(p, side, level, turned), false)
				}
			}
		}
	}
}

// A label that goes over the item's own place, from behind it to ahead of it or back, or that goes to another level: no more.
func TestCheckOfProofsWithLabelsElsewhere(t *testing.T) {
	l := items(9, 11, 12)
	root, _ := label.Root(key, l)
	p := prove(t, key, l, 11)
	own, _ := label.Leaf(l[1])
	all := slices.Concat(p.Before[0], []string{own}, p.After[0])
	for at := range all {
		other := proofWith(proofWith(p, 0, 0, all[:at]), 1, 0, all[at+1:])
		checkShows(t, "the group, from another place", root, l[1], other, at == 2)
	}
	for level := 1; level < 8; level++ {
		other := proofWith(proofWith(p, 0, 0, p.Before[level]), 1, 0, p.After[level])
		other = proofWith(proofWith(other, 0, level, p.Before[0]), 1, level, p.After[0])
		checkShows(t, "on another level", root, l[1], other, false)
	}
}

// P18.3

// Two items put in either order, one put twice, and one put and dropped: each item's proof shows it, of the one label.
func TestProofsOfPutsByHand(t *testing.T) {
	a, b, c := item(3), item(5), item(9)
	want := items(3, 5, 9)
	root, _ := label.Root(key, want)
	for what, l := range map[string][]api.Item{
		"in order":           put(t, put(t, put(t, nil, a), b), c),
		"turned":             put(t, put(t, put(t, nil, c), b), a),
		"one between last":   put(t, put(t, put(t, nil, a), c), b),
		"one put twice":      put(t, put(t, put(t, put(t, nil, b), a), b), c),
		"another Val ahead":  put(t, put(t, put(t, put(t, nil, api.Item{Key: 5, Val: "x"}), a), c), b),
		"one put, dropped":   drop(t, put(t, put(t, put(t, put(t, nil, a), item(130)), b), c), 130),
		"dropped, put again": put(t, drop(t, put(t, put(t, put(t, nil, a), b), c), 3), a),
	} {
		if !slices.Equal(l, want) {
			t.Fatalf("%v: %v", what, show(l))
		}
		for _, x := range want {
			p := prove(t, key, l, x.Key)
			checkShows(t, what, root, x, p, true)
			if !proof.Like(p, prove(t, key, want, x.Key)) {
				t.Errorf("%v: another proof of %v", what, x.Key)
			}
		}
		checkNoProof(t, key, l, 130, api.ErrNone)
	}
}

// What was dropped is shown no more by its old proof; and what is put in its place not by that either.
func TestOldProofsShowNothing(t *testing.T) {
	l := nine()
	for _, x := range l {
		p := prove(t, key, l, x.Key)
		without := drop(t, l, x.Key)
		root, _ := label.Root(key, without)
		checkShows(t, "dropped", root, x, p, false)
		checkNoProof(t, key, without, x.Key, api.ErrNone)
		other := api.Item{Key: x.Key, Val: "another"}
		changed := put(t, without, other)
		root, _ = label.Root(key, changed)
		checkShows(t, "the old Val", root, x, p, false)
		// The labels beside it are as they were.
		checkShows(t, "the new Val", root, other, p, true)
	}
}

// R4: no call changes what it was handed, nor what stands behind its end.
func TestListsAreNotChanged(t *testing.T) {
	behind := items(7, 1, 8)
	for _, l := range [][]api.Item{nil, items(3), items(3, 5, 9), nine(), rising(64, 0, 3), items(9, 5, 3), items(5, 5), with(items(3, 5, 9), 1, text(65))} {
		memory := slices.Concat(l, behind)
		for _, k := range []uint64{0, 3, 5, 7, 9, 146, 189} {
			proof.Prove(key, memory[:len(l)], k)
		}
		if !slices.Equal(memory, slices.Concat(l, behind)) {
			t.Errorf("%v was changed: %v", show(l), show(memory))
		}
	}
}

// roomy is a proof of the same rows, each of which, and both lists of which, have other texts behind their end.
func roomy(p api.Proof) (cut, whole api.Proof) {
	spare := func(l [][]string) ([][]string, [][]string) {
		var cut, whole [][]string
		for _, row := range l {
			memory := slices.Concat(row, some(3))
			cut = append(cut, memory[:len(row)])
			whole = append(whole, memory)
		}
		behind := some(4)
		cut = append(cut, behind[:2])
		whole = append(whole, behind)
		return cut[:len(l)], whole
	}
	cut.Before, whole.Before = spare(p.Before)
	cut.After, whole.After = spare(p.After)
	return cut, whole
}

func TestProofsAreNotChanged(t *testing.T) {
	for _, p := range []api.Proof{{}, plain(8, 8, 0), plain(8, 8, 2), plain(7, 8, 1), plain(8, 9, 1), plain(8, 8, 65), prove(t, key, nine(), 9), proofWith(plain(8, 8, 3), 0, 3, []string{"a"})} {
		cut, whole := roomy(p)
		was := written(whole)
		for _, x := range []api.Item{item(9), {Val: text(65)}} {
			proof.Steps(x, cut)
			proof.Check(sum("a"), x, cut)
		}
		proof.Like(cut, p)
		proof.Like(p, cut)
		proof.Like(cut, cut)
		if written(whole) != was || written(cut) != written(p) || len(cut.Before[:len(p.Before)+1][len(p.Before)]) != 2 {
			t.Errorf("%v was changed: %v", toldProof(p), toldProof(whole))
		}
	}
}

// An answer is nobody else's: what is written over a list of it, up to where its memory ends, changes no other list of it, and no later answer.
func TestAnswersAreNotShared(t *testing.T) {
	for _, l := range [][]api.Item{items(9), items(9, 11, 12, 14, 15), nine()} {
		for _, x := range l {
			was := prove(t, key, l, x.Key)
			for side := range 2 {
				for level := range 8 {
					p := prove(t, key, l, x.Key)
					row := rowAt(p, side, level)
					row = row[:cap(row)]
					for i := range row {
						row[i] = "over"
					}
					want := proofWith(was, side, level, nil)
					if written(proofWith(p, side, level, nil)) != written(want) {
						t.Errorf("Prove of %v in %v: a row of level %v shares memory", x.Key, show(l), level)
					}
				}
			}
			p := prove(t, key, l, x.Key)
			clear(p.Before[:cap(p.Before)])
			if want := (api.Proof{Before: make([][]string, 8), After: was.After}); written(p) != written(want) {
				t.Errorf("Prove of %v in %v: Before and After share memory", x.Key, show(l))
			}
			if again := prove(t, key, l, x.Key); written(again) != written(was) {
				t.Errorf("Prove of %v in %v = %v, and then %v", x.Key, show(l), toldProof(was), toldProof(again))
			}
			steps, _ := proof.Steps(x, was)
			first := slices.Clone(steps)
			clear(steps[:cap(steps)])
			if again, e := proof.Steps(x, was); !slices.Equal(again, first) || e != api.OK {
				t.Errorf("Steps of %v = %v, and then %v, %v", x.Key, told(first...), told(again...), e)
			}
		}
	}
}
