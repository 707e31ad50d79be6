package grafter_test

import (
	"strings"
	"testing"

	"grafter/api"
	"grafter/grafter"
)

// P7: how high, how many nodes, how many `&`, how heavy.
func TestMeasure(t *testing.T) {
	for _, c := range []struct {
		text string
		want api.Budget
	}{
		{"a", budget(1, 1, 0, 1)},
		{"\n  \n\"\"   \n ", budget(1, 1, 0, 1)},
		{"&p a", budget(1, 1, 1, 1)},
		{"[]", budget(1, 1, 0, 1)},
		{"{ }", budget(1, 1, 0, 1)},
		{"&p[a,{b:c}]", budget(3, 4, 1, 4)},
		{"a: 1\nb: [x, \"y z\"]", budget(3, 5, 0, 5)},
		{"- &p [1, 2]\n- *p\n- {k: *p}", budget(4, 5, 1, 11)},
		{"a:\n  - 1\n  -\n    b: 2", budget(4, 5, 0, 5)},
		{"-a\n-[]\n-\n  -b\n", budget(3, 5, 0, 5)},
		{"\"a b\":1\nc :2", budget(2, 3, 0, 3)},
		{"a: &p\n  x: 1\nb: *p", budget(3, 3, 1, 5)},
		{"a: & p\n\n  x: 1\n\nb: * p\n\n", budget(3, 3, 1, 5)},
		{"[&a x, &b [*a, *a], &c [*b, *b], [*c]]", budget(5, 5, 3, 20)},
		{"[&a x, &b y, &c z]", budget(2, 4, 3, 4)}, // names that nobody uses
		{"[&a [[[]]], []]", budget(4, 5, 1, 5)},
		{strings.Repeat("[", 20) + strings.Repeat("]", 20), budget(20, 20, 0, 20)},
		{"[" + strings.Repeat("a,", 498) + "a]", budget(2, 500, 0, 500)},
	} {
		measure(t, c.text, c.want)
	}
}

// P1: Load gives nil beside an error, and that may be asked too.
func TestMeasureOfNothing(t *testing.T) {
	d, _, _ := grafter.Load(";", wide)
	if got := d.Measure(); got != (api.Budget{}) {
		t.Errorf("%v", got)
	}
}

// P2: what a Doc answers hangs on its text alone, not on other calls.
func TestMeasureStaysTheSame(t *testing.T) {
	first := accept(t, "[&a x, *a]", budget(2, 2, 1, 3))
	second := accept(t, "[&a [y], *a, [*a]]", wide)
	grafter.Load("[*a]", wide)
	for range 2 {
		if got := first.Measure(); got != budget(2, 2, 1, 3) {
			t.Errorf("first: %v", got)
		}
		if got := second.Measure(); got != budget(4, 4, 1, 8) {
			t.Errorf("second: %v", got)
		}
	}
	refuse(t, "*a", wide, api.ErrAlias, 0) // no name is left from an earlier text
}
