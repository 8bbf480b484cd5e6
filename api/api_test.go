package api_test

import (
	"testing"

	"chime/api"
)

func TestErrorsHaveTheirNumbers(t *testing.T) {
	errors := []api.Errno{
		api.OK, api.ErrShort, api.ErrLong, api.ErrVersion, api.ErrMode, api.ErrRange,
		api.ErrText, api.ErrOrigin, api.ErrSync, api.ErrBack, api.ErrFew, api.ErrArg,
	}
	for i, e := range errors {
		if int(e) != i {
			t.Errorf("error %d has the number %d", i, e)
		}
	}
}

func TestLimitsAndModes(t *testing.T) {
	for _, c := range []struct {
		name      string
		got, want int64
	}{
		{"Size", api.Size, 48}, {"Stages", api.Stages, 8}, {"MaxTicks", api.MaxTicks, 32},
		{"MaxFar", api.MaxFar, 2305843009213693952}, {"MaxRate", api.MaxRate, 1000},
		{"MaxReads", api.MaxReads, 64}, {"Readers", api.Readers, 8},
		{"Client", api.Client, 3}, {"Server", api.Server, 4},
	} {
		if c.got != c.want {
			t.Errorf("%s is %d, want %d", c.name, c.got, c.want)
		}
	}
}
