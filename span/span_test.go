package span_test

import (
	"slices"
	"testing"

	"saltus/api"
	"saltus/span"
)

const top = uint64(1<<64 - 1)

// Spans that may not be, and one that may.
var (
	empty     = api.Span{From: 7}
	emptyTop  = api.Span{From: top}
	beyond    = api.Span{From: top, Len: 2}
	beyondFar = api.Span{From: top, Len: top}
	beyondTwo = api.Span{From: 2, Len: top}
	tenFrom10 = api.Span{From: 10, Len: 10}
)

// P1.1

func TestCheckAndLast(t *testing.T) {
	for _, x := range []struct {
		s    api.Span
		last uint64
		e    api.Errno
	}{
		{api.Span{From: 0, Len: 1}, 0, api.OK},
		{api.Span{From: 3, Len: 4}, 6, api.OK},
		{api.Span{From: 0, Len: 1 << 63}, 1<<63 - 1, api.OK},
		{api.Span{From: 1 << 63, Len: 1 << 63}, top, api.OK},
		{api.Span{From: 1<<63 + 1, Len: 1 << 63}, 0, api.ErrRange},
		{api.Span{From: top, Len: 1}, top, api.OK},
		{api.Span{From: top - 1, Len: 2}, top, api.OK},
		{api.Span{From: top - 1, Len: 1}, top - 1, api.OK},
		{api.Span{From: 0, Len: top}, top - 1, api.OK},
		{api.Span{From: 1, Len: top}, top, api.OK},
		{api.Span{}, 0, api.ErrArg},
		{empty, 0, api.ErrArg},
		{emptyTop, 0, api.ErrArg},
		{beyond, 0, api.ErrRange},
		{beyondFar, 0, api.ErrRange},
		{beyondTwo, 0, api.ErrRange},
	} {
		if e := span.Check(x.s); e != x.e {
			t.Errorf("Check(%v) = %v, want %v", x.s, e, x.e)
		}
		if last, e := span.Last(x.s); last != x.last || e != x.e {
			t.Errorf("Last(%v) = %v, %v, want %v, %v", x.s, last, e, x.last, x.e)
		}
	}
}

// P1.2

func TestCutAndLess(t *testing.T) {
	for _, x := range []struct {
		a, b api.Span
		cut  api.Span
		e    api.Errno
		less []api.Span
	}{
		{api.Span{From: 0, Len: 10}, api.Span{From: 4, Len: 2}, api.Span{From: 4, Len: 2}, api.OK, []api.Span{{From: 0, Len: 4}, {From: 6, Len: 4}}},
		{tenFrom10, tenFrom10, tenFrom10, api.OK, nil},
		{tenFrom10, api.Span{From: 0, Len: 10}, api.Span{}, api.ErrNone, []api.Span{tenFrom10}},
		{tenFrom10, api.Span{From: 0, Len: 11}, api.Span{From: 10, Len: 1}, api.OK, []api.Span{{From: 11, Len: 9}}},
		{tenFrom10, api.Span{From: 20, Len: 1}, api.Span{}, api.ErrNone, []api.Span{tenFrom10}},
		{tenFrom10, api.Span{From: 19, Len: 1}, api.Span{From: 19, Len: 1}, api.OK, []api.Span{{From: 10, Len: 9}}},
		{tenFrom10, api.Span{From: 10, Len: 1}, api.Span{From: 10, Len: 1}, api.OK, []api.Span{{From: 11, Len: 9}}},
		{tenFrom10, api.Span{From: 0, Len: top}, tenFrom10, api.OK, nil},
		{api.Span{From: 0, Len: top}, api.Span{From: 1, Len: top}, api.Span{From: 1, Len: top - 1}, api.OK, []api.Span{{From: 0, Len: 1}}},
		{api.Span{From: 1, Len: top}, api.Span{From: 0, Len: top}, api.Span{From: 1, Len: top - 1}, api.OK, []api.Span{{From: top, Len: 1}}},
		{api.Span{From: 1, Len: top}, api.Span{From: top, Len: 1}, api.Span{From: top, Len: 1}, api.OK, []api.Span{{From: 1, Len: top - 1}}},
		{api.Span{From: top, Len: 1}, api.Span{From: 0, Len: 1}, api.Span{}, api.ErrNone, []api.Span{{From: top, Len: 1}}},
	} {
		if c, e := span.Cut(x.a, x.b); c != x.cut || e != x.e {
			t.Errorf("Cut(%v, %v) = %v, %v, want %v, %v", x.a, x.b, c, e, x.cut, x.e)
		}
		if l, e := span.Less(x.a, x.b); !slices.Equal(l, x.less) || e != api.OK {
			t.Errorf("Less(%v, %v) = %v, %v, want %v", x.a, x.b, l, e, x.less)
		}
	}
}

func TestCutAndLessTellTheFirstErrorFirst(t *testing.T) {
	for _, x := range []struct {
		a, b api.Span
		e    api.Errno
	}{
		{empty, tenFrom10, api.ErrArg},
		{tenFrom10, empty, api.ErrArg},
		{beyond, tenFrom10, api.ErrRange},
		{tenFrom10, beyond, api.ErrRange},
		{empty, beyond, api.ErrArg},
		{beyond, empty, api.ErrRange},
		{beyondFar, emptyTop, api.ErrRange},
		{emptyTop, beyondFar, api.ErrArg},
	} {
		if c, e := span.Cut(x.a, x.b); c != (api.Span{}) || e != x.e {
			t.Errorf("Cut(%v, %v) = %v, %v, want %v", x.a, x.b, c, e, x.e)
		}
		if l, e := span.Less(x.a, x.b); len(l) != 0 || e != x.e {
			t.Errorf("Less(%v, %v) = %v, %v, want %v", x.a, x.b, l, e, x.e)
		}
	}
}

// P1.3

func TestCover(t *testing.T) {
	for _, x := range []struct {
		s     api.Span
		size  uint64
		cover api.Span
		e     api.Errno
	}{
		{api.Span{From: 31, Len: 34}, 32, api.Span{From: 0, Len: 3}, api.OK},
		{api.Span{From: 32, Len: 32}, 32, api.Span{From: 1, Len: 1}, api.OK},
		{api.Span{From: 32, Len: 33}, 32, api.Span{From: 1, Len: 2}, api.OK},
		{api.Span{From: 31, Len: 1}, 32, api.Span{From: 0, Len: 1}, api.OK},
		{api.Span{From: 31, Len: 2}, 32, api.Span{From: 0, Len: 2}, api.OK},
		{api.Span{From: 5, Len: 9}, 1, api.Span{From: 5, Len: 9}, api.OK},
		{api.Span{From: top, Len: 1}, 1, api.Span{From: top, Len: 1}, api.OK},
		{api.Span{From: top, Len: 1}, 32, api.Span{From: 1<<59 - 1, Len: 1}, api.OK},
		{api.Span{From: top, Len: 1}, top, api.Span{From: 1, Len: 1}, api.OK},
		{api.Span{From: 0, Len: top}, top, api.Span{From: 0, Len: 1}, api.OK},
		{api.Span{From: 1, Len: top}, top, api.Span{From: 0, Len: 2}, api.OK},
		{api.Span{From: 0, Len: top}, 2, api.Span{From: 0, Len: 1 << 63}, api.OK},
		{api.Span{From: 1, Len: top}, 2, api.Span{From: 0, Len: 1 << 63}, api.OK},
		{api.Span{From: 1, Len: top}, 32, api.Span{From: 0, Len: 1 << 59}, api.OK},
		{empty, 32, api.Span{}, api.ErrArg},
		{beyond, 32, api.Span{}, api.ErrRange},
		{tenFrom10, 0, api.Span{}, api.ErrArg},
		{empty, 0, api.Span{}, api.ErrArg},
		{beyond, 0, api.Span{}, api.ErrRange},
		{beyondFar, 1, api.Span{}, api.ErrRange},
	} {
		if c, e := span.Cover(x.s, x.size); c != x.cover || e != x.e {
			t.Errorf("Cover(%v, %v) = %v, %v, want %v, %v", x.s, x.size, c, e, x.cover, x.e)
		}
	}
}

// No one span has all 2^64 numbers, so no cover has all 2^64 blocks: the longest ones, by blocks of one number, are one short of that.
func TestCoverOfAllBlocksButOne(t *testing.T) {
	for _, s := range []api.Span{{From: 0, Len: top}, {From: 1, Len: top}} {
		if c, e := span.Cover(s, 1); c != s || e != api.OK {
			t.Errorf("Cover(%v, 1) = %v, %v", s, c, e)
		}
	}
}

func TestUnion(t *testing.T) {
	for _, x := range []struct {
		l, union []api.Span
	}{
		{nil, nil},
		{[]api.Span{}, nil},
		{[]api.Span{tenFrom10}, []api.Span{tenFrom10}},
		{[]api.Span{tenFrom10, tenFrom10}, []api.Span{tenFrom10}},
		{[]api.Span{{From: 9, Len: 2}, {From: 0, Len: 3}, {From: 3, Len: 1}, {From: 10, Len: 5}}, []api.Span{{From: 0, Len: 4}, {From: 9, Len: 6}}},
		{[]api.Span{{From: 0, Len: 3}, {From: 4, Len: 1}}, []api.Span{{From: 0, Len: 3}, {From: 4, Len: 1}}},
		{[]api.Span{{From: 0, Len: 9}, {From: 2, Len: 1}, {From: 9, Len: 1}}, []api.Span{{From: 0, Len: 10}}},
		{[]api.Span{{From: top, Len: 1}, {From: 0, Len: 1}}, []api.Span{{From: 0, Len: 1}, {From: top, Len: 1}}},
		{[]api.Span{{From: top, Len: 1}, {From: 5, Len: top - 4}}, []api.Span{{From: 5, Len: top - 4}}},
		{[]api.Span{{From: top, Len: 1}, {From: top - 1, Len: 1}, {From: top, Len: 1}}, []api.Span{{From: top - 1, Len: 2}}},
		{[]api.Span{{From: 1, Len: top}}, []api.Span{{From: 1, Len: top}}},
		{[]api.Span{{From: 0, Len: top}}, []api.Span{{From: 0, Len: top}}},
	} {
		if u, e := span.Union(x.l); !slices.Equal(u, x.union) || e != api.OK {
			t.Errorf("Union(%v) = %v, %v, want %v", x.l, u, e, x.union)
		}
	}
}

func TestUnionErrors(t *testing.T) {
	low, high := api.Span{From: 0, Len: 1 << 63}, api.Span{From: 1 << 63, Len: 1 << 63}
	for _, x := range []struct {
		l []api.Span
		e api.Errno
	}{
		{[]api.Span{low, high}, api.ErrRange},
		{[]api.Span{high, low}, api.ErrRange},
		{[]api.Span{{From: 1, Len: top}, {From: 0, Len: top}}, api.ErrRange},
		{[]api.Span{{From: 1, Len: top}, tenFrom10, {From: 0, Len: 1}}, api.ErrRange},
		{[]api.Span{empty}, api.ErrArg},
		{[]api.Span{beyond}, api.ErrRange},
		{[]api.Span{tenFrom10, empty, beyond}, api.ErrArg},
		{[]api.Span{tenFrom10, beyond, empty}, api.ErrRange},
		{[]api.Span{beyondTwo, {}}, api.ErrRange},
		{[]api.Span{low, high, empty}, api.ErrArg},
	} {
		if u, e := span.Union(x.l); len(u) != 0 || e != x.e {
			t.Errorf("Union(%v) = %v, %v, want %v", x.l, u, e, x.e)
		}
	}
}

func TestUnionOfManySpans(t *testing.T) {
	const many = 100000
	var apart, touching []api.Span
	for i := range uint64(many) {
		from := (many - 1 - i) * 2
		apart = append(apart, api.Span{From: from, Len: 1})
		touching = append(touching, api.Span{From: from, Len: 2})
	}
	u, e := span.Union(apart)
	if e != api.OK || len(u) != many {
		t.Fatal(len(u), e)
	}
	for i, s := range u {
		if s != (api.Span{From: uint64(i) * 2, Len: 1}) {
			t.Fatal(i, s)
		}
	}
	if u, e := span.Union(touching); e != api.OK || !slices.Equal(u, []api.Span{{From: 0, Len: 2 * many}}) {
		t.Fatal(len(u), e)
	}
}

// R4

func TestListsAreNotChangedAndNotShared(t *testing.T) {
	l := []api.Span{{From: 9, Len: 2}, {From: 0, Len: 3}, {From: 10, Len: 5}}
	was := slices.Clone(l)
	u, _ := span.Union(l)
	if !slices.Equal(l, was) {
		t.Error("Union changed its list:", l)
	}
	for i := range u {
		u[i] = api.Span{}
	}
	if !slices.Equal(l, was) {
		t.Error("Union's answer is its list:", l)
	}
	one := []api.Span{tenFrom10}
	u, _ = span.Union(one)
	u[0] = api.Span{}
	if one[0] != tenFrom10 {
		t.Error("Union's answer is its list:", one)
	}
}
