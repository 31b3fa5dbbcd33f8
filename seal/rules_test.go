package seal

import (
	"testing"

	"saltus/api"
)

// The first rule that is not kept tells why, whatever those behind it are.
func TestRefusal(t *testing.T) {
	arg, size, auth, kept := rule{false, api.ErrArg}, rule{false, api.ErrSize}, rule{false, api.ErrAuth}, rule{true, api.ErrRange}
	for _, x := range []struct {
		rules []rule
		want  api.Errno
	}{
		{nil, api.OK},
		{[]rule{kept}, api.OK},
		{[]rule{kept, kept, kept}, api.OK},
		{[]rule{arg}, api.ErrArg},
		{[]rule{arg, size, auth}, api.ErrArg},
		{[]rule{auth, arg}, api.ErrAuth},
		{[]rule{kept, size, arg}, api.ErrSize},
		{[]rule{size, kept}, api.ErrSize},
		{[]rule{kept, kept, auth}, api.ErrAuth},
	} {
		if got := refusal(x.rules...); got != x.want {
			t.Errorf("refusal of %v = %v, want %v", x.rules, got, x.want)
		}
	}
}
