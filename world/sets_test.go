package world_test

import (
	"math"
	"strings"
	"testing"

	"emend/api"
	"emend/world"
)

func TestK2Examples(t *testing.T) {
	defs(t, "A B C", 5, "A C", api.OK)
	sets(t, "A B C", "C A", 5, api.OK)
	sets(t, "A", "B", 0, api.ErrName)
}

func TestK2Defs(t *testing.T) {
	names := strings.Fields("A B C D E F G H")
	for n := range 9 {
		l := strings.Join(names[:n], " ")
		defs(t, l, 0, "", api.OK)
		defs(t, l, 1<<n-1, l, api.OK)
		for _, set := range []int{1 << n, 1<<n + 1, -1, -2, -(1 << n), 1 << 9, 1 << 32, 1<<32 + 1, 1 << 62, math.MaxInt, math.MinInt, math.MinInt + 1} {
			if set >= 0 && set < 1<<n {
				continue
			}
			defs(t, l, set, "", api.ErrArg)
		}
		for i := range n {
			defs(t, l, 1<<i, names[i], api.OK)
		}
	}
	defs(t, "H C A B", 9, "H B", api.OK)
	defs(t, "H C A B", 6, "C A", api.OK)
	nine := strings.Join(names, " ") + " I"
	for _, set := range []int{0, 1, 255, 256, 511, 512, -1, math.MaxInt, math.MinInt} {
		defs(t, nine, set, "", api.ErrArg)
		defs(t, numbered(70, "N@ "), set, "", api.ErrArg)
	}
	// Names that stand twice are two places.
	defs(t, "A B A", 1, "A", api.OK)
	defs(t, "A B A", 4, "A", api.OK)
	defs(t, "A B A", 5, "A A", api.OK)
	defs(t, "A A A A A A A A", 254, "A A A A A A A", api.OK)
	defs(t, "A A A A A A A A A", 1, "", api.ErrArg)
}

func TestK2Set(t *testing.T) {
	const eight = "A B C D E F G H"
	sets(t, "", "", 0, api.OK)
	sets(t, "", "A", 0, api.ErrName)
	sets(t, eight, "", 0, api.OK)
	sets(t, eight, eight, 255, api.OK)
	sets(t, eight, "H G F E D C B A", 255, api.OK)
	for i, name := range strings.Fields(eight) {
		sets(t, eight, name, 1<<i, api.OK)
		sets(t, eight, name+" "+name+" "+name, 1<<i, api.OK)
		sets(t, eight, name+" A "+name, 1<<i|1, api.OK)
		for _, no := range []string{"I", strings.ToLower(name), name + name, name + "_", "_" + name} {
			sets(t, eight, no, 0, api.ErrName)
			sets(t, eight, name+" "+no, 0, api.ErrName)
			sets(t, eight, no+" "+name, 0, api.ErrName)
			sets(t, eight, eight+" "+no+" "+eight, 0, api.ErrName)
		}
	}
	sets(t, eight+" I", "", 0, api.ErrArg)
	sets(t, eight+" I", "A", 0, api.ErrArg)
	sets(t, eight+" I", "J", 0, api.ErrArg)
	sets(t, eight+" A", eight, 0, api.ErrArg)
	sets(t, "B A B A", "A", 2, api.OK)
	sets(t, "B A B A", "B B", 1, api.OK)
	sets(t, "B A B A", "A B A", 3, api.OK)
	sets(t, "A A A A A A A A", "A", 1, api.OK)
	sets(t, "A A A A A A A A", "A B", 0, api.ErrName)
	sets(t, "AB A", "A", 2, api.OK)
	sets(t, "A", numbered(20, "A "), 1, api.OK)
}

// Names here are any texts.
func TestK2AnyTexts(t *testing.T) {
	l := []string{"", " ", "a b", "\x00", "\xff", "é", "1", "defined"}
	for set := range 256 {
		d, e := world.Defs(l, set)
		back, f := world.Set(l, d)
		if e != api.OK || f != api.OK || back != set {
			t.Errorf("%d: %q, %d, %d, %d", set, d, e, back, f)
		}
	}
	if n, e := world.Set(l[1:], l[:1]); n != 0 || e != api.ErrName {
		t.Errorf("%d, %d", n, e)
	}
}

// All short lists of names, with all sets, and with all short lists of definitions.
func TestK2AllShortLists(t *testing.T) {
	listsUpTo(4, []string{"A", "B", "C"}, func(names []string) {
		l := strings.Join(names, " ")
		for set := -2; set < 1<<len(names)+3; set++ {
			want, e := toldDefs(names, set)
			defs(t, l, set, strings.Join(want, " "), e)
		}
		listsUpTo(3, []string{"A", "B", "C"}, func(d []string) {
			want, e := toldSet(names, d)
			sets(t, l, strings.Join(d, " "), want, e)
		})
	})
}

// K4: what a set defines is that set.
func TestK4Sets(t *testing.T) {
	for _, names := range []string{"A B C D E F G H", "H G F E D C B A", "A a AA aA A_ _A _ A1"} {
		l := strings.Fields(names)
		for n := range 9 {
			for set := range 1 << n {
				d, e := world.Defs(l[:n], set)
				back, f := world.Set(l[:n], d)
				if e != api.OK || f != api.OK || back != set {
					t.Errorf("%q, %d: %q, %d, %d, %d", l[:n], set, d, e, back, f)
				}
			}
		}
	}
}
