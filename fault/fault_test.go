package fault

import (
	"testing"

	"lectern/api"
)

func TestFirstStays(t *testing.T) {
	var f First
	if f.Code != api.OK || f.At != 0 {
		t.Errorf("P3: a new one has %v", f)
	}
	f.Tell(api.ErrSyntax, 7)
	f.Tell(api.ErrDeep, 3)
	if f.Code != api.ErrSyntax || f.At != 7 {
		t.Errorf("P3: the first fault was (%d, 7), but %v is kept", api.ErrSyntax, f)
	}
}
