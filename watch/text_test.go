package watch

import (
	"fmt"
	"math"
	"testing"

	"flit/api"
)

// The texts are those in which fmt tells these things.
func TestTexts(t *testing.T) {
	for _, n := range []int{0, 1, -1, 24, math.MaxInt, math.MinInt} {
		for _, is := range []bool{false, true} {
			v := api.Val{Kind: n, N: 2}
			w := api.Val{Kind: 3, N: n}
			for _, x := range []struct{ got, want string }{
				{number(n), fmt.Sprint(n)},
				{whether(is), fmt.Sprint(is)},
				{thingText(Thing{n, 5}), fmt.Sprint(Thing{n, 5})},
				{thingText(Thing{5, n}), fmt.Sprint(Thing{5, n})},
				{valText(v), fmt.Sprint(v)},
				{valText(w), fmt.Sprint(w)},
				{outText(api.Out{Code: api.ErrBusy, V: v, Yes: is}), fmt.Sprint(api.Out{Code: api.ErrBusy, V: v, Yes: is})},
				{accessText(api.Access{Op: 3, At: n, OK: is}), fmt.Sprint(api.Access{Op: 3, At: n, OK: is})},
				{reqText(api.Req{Op: 2, At: n, Field: 1, Exp: v, New: w}), fmt.Sprintf("%+v", api.Req{Op: 2, At: n, Field: 1, Exp: v, New: w})},
			} {
				if x.got != x.want {
					t.Errorf("%q, want %q", x.got, x.want)
				}
			}
		}
	}
}
