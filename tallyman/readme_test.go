package tallyman_test

import (
	"testing"

	"tallyman/api"
	"tallyman/tallyman"
)

// TestExampleOfReadme makes the calls of the README's examples, one behind the other.
func TestExampleOfReadme(t *testing.T) {
	b := tallyman.New()
	family(t, b, api.OK, "hits", api.Counter)
	change(t, b, api.OK, `hits{a="1"}`, 5)
	change(t, b, api.OK, `hits{a="1"}`, 2)
	family(t, b, api.OK, "load", api.Gauge)
	change(t, b, api.OK, "load", -3)
	family(t, b, api.OK, "wait", api.Histogram, 10, 20)
	change(t, b, api.OK, "wait", 15)
	drop(t, b, api.OK, "wait")
	change(t, b, api.OK, "wait", 15)
	open(t, b, "", 0)
	change(t, b, api.OK, "wait", 5)
	page(t, b, 0, 3, true, "# hits counter", `hits{a="1"} 7`, "# load gauge")
	page(t, b, 0, api.MaxPage, false, "load -3", "# wait histogram", "wait upto 10 0", "wait upto 20 1", "wait all 1 sum 15")
}
