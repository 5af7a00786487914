package kern_test

import (
	"fmt"

	"linchpin/api"
	"linchpin/kern"
)

// The example of README.md.
func Example() {
	k, code := kern.New(api.Config{
		Tasks:   []api.Work{{Prio: 1, Cost: 2, Period: 10, Dead: 5}},
		Loads:   []api.Server{{Budget: 2, Period: 10}},
		Lines:   []api.Line{{Count: 2, Hold: 10, Depth: 2, Every: 10, Storm: 3, Span: 10}},
		Classes: []api.Class{{Size: 64, Count: 4}},
		Ring:    8,
		Cost:    5,
	})
	if code != api.OK {
		return
	}
	for _, answer := range k.Run([]string{"release 0 2", "raise 0", "raise 0", "tick 5", "now"}) {
		fmt.Println(answer)
	}
	// Output:
	// ok
	// ok
	// ok
	// s0 s0 t0 t0+0 .
	// 5
}
