package attr_test

import (
	"slices"
	"strconv"
	"strings"
	"testing"

	"instar/api"
	"instar/attr"
)

// list makes attributes of names and values in turn.
func list(texts ...string) []api.Attr {
	var l []api.Attr
	for i := 0; i < len(texts); i += 2 {
		l = append(l, api.Attr{Name: texts[i], Value: texts[i+1]})
	}
	return l
}

// many makes so many attributes: n0, n1 ..
func many(count int) []api.Attr {
	var l []api.Attr
	for i := range count {
		l = append(l, api.Attr{Name: "n" + strconv.Itoa(i), Value: "v" + strconv.Itoa(i)})
	}
	return l
}

func long(bytes int) string { return strings.Repeat("v", bytes) }

// wrongLists are lists that aren't right, each for one reason.
func wrongLists() map[string][]api.Attr {
	return map[string][]api.Attr{
		"capital":                 list("A", "1"),
		"capital behind":          list("a", "1", "b-C", "2"),
		"capital beside small":    list("a", "1", "A", "1"),
		"twice":                   list("a", "1", "a", "2"),
		"twice, the same":         list("a", "1", "b", "2", "a", "1"),
		"nothing as name":         list("", "1"),
		"digit first":             list("a", "1", "9", "2"),
		"space":                   list("a b", ""),
		"no letter":               list("\u00e4", ""),
		"no UTF-8":                list("a\xff", ""),
		"41 signs":                list(strings.Repeat("a", 41), ""),
		"201 bytes":               list("a", long(201)),
		"201 bytes behind":        list("a", "", "b", long(201)),
		"101 letters of 2 bytes":  list("a", strings.Repeat("\u00e4", 101)),
		"41":                      many(41),
		"1000":                    many(1000),
		"40, the last wrong":      append(many(39), api.Attr{Name: "N"}),
		"40, the last once more":  append(many(39), api.Attr{Name: "n0"}),
		"40, the last value long": append(many(39), api.Attr{Name: "a", Value: long(201)}),
	}
}

// rightLists are lists that are right, at the edges.
func rightLists() map[string][]api.Attr {
	return map[string][]api.Attr{
		"nil":                    nil,
		"empty":                  {},
		"one":                    list("a", ""),
		"two":                    list("a", "1", "b", "2"),
		"two of one value":       list("b", "1", "a", "1"),
		"kinds of names":         list("x-a", "", "div", "", "svg", "", "_", "", "font-face", "", "a.9-_", ""),
		"40 signs":               list(strings.Repeat("a", 40), ""),
		"200 bytes":              list("a", long(200), "b", long(200)),
		"100 letters of 2 bytes": list("a", strings.Repeat("\u00e4", 100)),
		"any bytes":              list("a", "A\x00\xff\n \"<", "b", "\u4e00"),
		"39":                     many(39),
		"40":                     many(40),
	}
}

func wrongNames() []string {
	return []string{"", "9", "-a", ".", "a b", " a", "a\x00", "\u00e4", "a\xff", strings.Repeat("a", 41)}
}

// guard hands l in with spare room behind it, and checks that neither is changed: not by the call, nor by
// whoever changes its answer, spare room and all.
func guard(t *testing.T, what string, l []api.Attr, call func([]api.Attr) []api.Attr) {
	t.Helper()
	whole := append(append([]api.Attr{}, l...), list("spare-a", "s", "spare-b", "s", "spare-c", "s")...)
	before := slices.Clone(whole)
	answer := call(whole[:len(l)])
	if !slices.Equal(whole, before) {
		t.Errorf("%s: changed what was handed in: %v", what, whole)
	}
	answer = answer[:cap(answer)]
	for i := range answer {
		answer[i] = api.Attr{Name: "mine", Value: "mine"}
	}
	if !slices.Equal(whole, before) {
		t.Errorf("%s: the answer shares memory with what was handed in: %v", what, whole)
	}
}

func checkSet(t *testing.T, l []api.Attr, n, value string, want []api.Attr, err api.Errno) {
	t.Helper()
	guard(t, "Set", l, func(l []api.Attr) []api.Attr {
		m, e := attr.Set(l, n, value)
		if !slices.Equal(m, want) || e != err {
			t.Errorf("Set(%v, %q, %q) = %v, %d, not %v, %d", l, n, value, m, e, want, err)
		}
		return m
	})
}

func checkRemove(t *testing.T, l []api.Attr, n string, want []api.Attr, ok bool) {
	t.Helper()
	guard(t, "Remove", l, func(l []api.Attr) []api.Attr {
		m, was := attr.Remove(l, n)
		if !slices.Equal(m, want) || was != ok {
			t.Errorf("Remove(%v, %q) = %v, %v, not %v, %v", l, n, m, was, want, ok)
		}
		return m
	})
}

func checkToggle(t *testing.T, l []api.Attr, n string, force int, want []api.Attr, has bool, err api.Errno) {
	t.Helper()
	guard(t, "Toggle", l, func(l []api.Attr) []api.Attr {
		m, on, e := attr.Toggle(l, n, force)
		if !slices.Equal(m, want) || on != has || e != err {
			t.Errorf("Toggle(%v, %q, %d) = %v, %v, %d, not %v, %v, %d", l, n, force, m, on, e, want, has, err)
		}
		return m
	})
}

func checkGet(t *testing.T, l []api.Attr, n, want string, ok bool) {
	t.Helper()
	guard(t, "Get", l, func(l []api.Attr) []api.Attr {
		if v, was := attr.Get(l, n); v != want || was != ok {
			t.Errorf("Get(%v, %q) = %q, %v, not %q, %v", l, n, v, was, want, ok)
		}
		return nil
	})
}

// forces are some of each sign, the greatest too.
func forces() []int {
	const most = int(^uint(0) >> 1)
	return []int{0, 1, 2, 99, most, -1, -2, -99, -most - 1}
}

// P2.1: which lists are right, at the edges.
func TestRight(t *testing.T) {
	check := func(what string, l []api.Attr, right bool) {
		guard(t, what, l, func(l []api.Attr) []api.Attr {
			if attr.Right(l) != right {
				t.Errorf("%s: Right(%v) = %v", what, l, !right)
			}
			return nil
		})
	}
	for what, l := range rightLists() {
		check(what, l, true)
	}
	for what, l := range wrongLists() {
		check(what, l, false)
	}
	for n := range 100 {
		check(strconv.Itoa(n)+" attributes", many(n), n <= 40)
		check(strconv.Itoa(n)+" signs", list(strings.Repeat("a", n), ""), 1 <= n && n <= 40)
	}
	for n := range 400 {
		check(strconv.Itoa(n)+" bytes", list("a", long(n)), n <= 200)
	}
}

// P2.1: a name that stands twice makes a list wrong, wherever the two stand.
func TestTwiceAnywhere(t *testing.T) {
	for i := range 40 {
		for j := range 40 {
			l := many(40)
			l[j].Name = l[i].Name
			if attr.Right(l) != (i == j) {
				t.Errorf("%d as %d: Right = %v", j, i, i != j)
			}
		}
	}
}

// P2.1: what is there, asked of in whatever letters.
func TestGet(t *testing.T) {
	l := list("a", "1", "x-b", "", "c", "V v")
	for n, want := range map[string]string{"a": "1", "A": "1", "x-b": "", "X-b": "", "x-B": "", "c": "V v", "C": "V v"} {
		checkGet(t, l, n, want, true)
	}
	for _, n := range []string{"b", "x", "x-", "x-bb", "aa", "d", "_"} {
		checkGet(t, l, n, "", false)
	}
	for _, n := range wrongNames() {
		checkGet(t, l, n, "", false)
	}
	for i, a := range many(40) {
		checkGet(t, many(40), strings.ToUpper(a.Name), "v"+strconv.Itoa(i), true)
	}
	checkGet(t, many(40), "n40", "", false)
	checkGet(t, nil, "a", "", false)
	checkGet(t, nil, "", "", false)
}

// P2.1: of a list that isn't right nothing is told, not even of what it seems to have.
func TestGetOfWrongList(t *testing.T) {
	for _, l := range wrongLists() {
		for _, n := range []string{"a", "b", "n0", "A", "", l[0].Name} {
			checkGet(t, l, n, "", false)
		}
	}
}

// P2.2: at its place, or behind all, and always in the small form.
func TestSet(t *testing.T) {
	l := list("b", "1", "a", "2", "x-c", "3")
	checkSet(t, l, "b", "9", list("b", "9", "a", "2", "x-c", "3"), api.OK)
	checkSet(t, l, "A", "9", list("b", "1", "a", "9", "x-c", "3"), api.OK)
	checkSet(t, l, "X-C", "", list("b", "1", "a", "2", "x-c", ""), api.OK)
	checkSet(t, l, "a", "2", l, api.OK)
	checkSet(t, l, "_", "9", list("b", "1", "a", "2", "x-c", "3", "_", "9"), api.OK)
	checkSet(t, l, "X-D", "D", list("b", "1", "a", "2", "x-c", "3", "x-d", "D"), api.OK)
	checkSet(t, nil, "Div", "\x00\xff", list("div", "\x00\xff"), api.OK)
	checkSet(t, []api.Attr{}, "a", "", list("a", ""), api.OK)
	for n := 1; n <= 40; n++ {
		long := strings.Repeat("Q", n)
		checkSet(t, l, long, "", append(slices.Clone(l), api.Attr{Name: strings.Repeat("q", n)}), api.OK)
	}
}

// P2.2: the chapter's example.
func TestSetExample(t *testing.T) {
	var l []api.Attr
	for _, a := range list("a", "1", "b", "2", "a", "3") {
		m, err := attr.Set(l, a.Name, a.Value)
		if err != api.OK {
			t.Fatal(err)
		}
		l = m
	}
	if !slices.Equal(l, list("a", "3", "b", "2")) {
		t.Error(l)
	}
}

// P2.2: values of 200 and of 201 bytes, new and at a place.
func TestSetLongValue(t *testing.T) {
	l := list("a", "1", "b", "2")
	for _, n := range []int{0, 1, 199, 200} {
		checkSet(t, l, "a", long(n), list("a", long(n), "b", "2"), api.OK)
		checkSet(t, l, "c", long(n), list("a", "1", "b", "2", "c", long(n)), api.OK)
	}
	for _, n := range []int{201, 202, 400, 1 << 16, 1 << 20} {
		checkSet(t, l, "a", long(n), l, api.ErrLong)
		checkSet(t, l, "c", long(n), l, api.ErrLong)
		checkSet(t, nil, "c", long(n), nil, api.ErrLong)
	}
	wide := strings.Repeat("\u00e4", 100)
	checkSet(t, l, "b", wide, list("a", "1", "b", wide), api.OK)
	checkSet(t, l, "b", wide+"\u00e4", l, api.ErrLong)
}

// P2.2: 40 may be; where 40 others are, one more may not be.
func TestSetFull(t *testing.T) {
	checkSet(t, many(39), "a", "", append(many(39), api.Attr{Name: "a"}), api.OK)
	checkSet(t, many(40), "a", "", many(40), api.ErrLong)
	checkSet(t, many(40), "N40", "v", many(40), api.ErrLong)
	for i := range 40 {
		want := many(40)
		want[i].Value = "new"
		checkSet(t, many(40), want[i].Name, "new", want, api.OK)
	}
	checkSet(t, many(40), "n7", long(201), many(40), api.ErrLong)
}

// P2.2: ErrArg goes ahead of ErrName, and ErrName ahead of ErrLong.
func TestSetFirstError(t *testing.T) {
	for _, l := range wrongLists() {
		for _, n := range append(wrongNames(), "a", "A", "n0", "other") {
			checkSet(t, l, n, "", l, api.ErrArg)
			checkSet(t, l, n, long(201), l, api.ErrArg)
		}
	}
	for _, n := range wrongNames() {
		for _, l := range rightLists() {
			checkSet(t, l, n, "", l, api.ErrName)
			checkSet(t, l, n, long(201), l, api.ErrName)
		}
	}
}

// P2.2: without it, the others in their order.
func TestRemove(t *testing.T) {
	l := list("b", "1", "a", "", "x-c", "3")
	checkRemove(t, l, "b", list("a", "", "x-c", "3"), true)
	checkRemove(t, l, "A", list("b", "1", "x-c", "3"), true)
	checkRemove(t, l, "X-c", list("b", "1", "a", ""), true)
	checkRemove(t, list("a", "1"), "a", nil, true)
	for i := range 40 {
		checkRemove(t, many(40), "N"+strconv.Itoa(i), append(many(i), many(40)[i+1:]...), true)
	}
}

// P2.2: as it is, where Get tells false.
func TestRemoveNothing(t *testing.T) {
	l := list("b", "1", "a", "", "x-c", "3")
	for _, n := range append(wrongNames(), "c", "x", "x-", "bb", "_") {
		checkRemove(t, l, n, l, false)
		checkRemove(t, nil, n, nil, false)
		checkRemove(t, many(40), n, many(40), false)
	}
	for _, l := range wrongLists() {
		for _, n := range append(wrongNames(), "a", "b", "n0", "A", l[0].Name) {
			checkRemove(t, l, n, l, false)
		}
	}
}

// P2.3: each force, for a name that is there and one that isn't.
func TestToggle(t *testing.T) {
	l := list("b", "1", "a", "2", "c", "")
	for _, force := range forces() {
		if force <= 0 {
			checkToggle(t, l, "A", force, list("b", "1", "c", ""), false, api.OK)
			checkToggle(t, l, "c", force, list("b", "1", "a", "2"), false, api.OK)
			checkToggle(t, list("a", "1"), "a", force, nil, false, api.OK)
		} else {
			checkToggle(t, l, "A", force, l, true, api.OK) // its value stays
			checkToggle(t, l, "c", force, l, true, api.OK)
		}
		if force >= 0 {
			checkToggle(t, l, "X-d", force, append(slices.Clone(l), api.Attr{Name: "x-d"}), true, api.OK)
			checkToggle(t, nil, "a", force, list("a", ""), true, api.OK)
		} else {
			checkToggle(t, l, "X-d", force, l, false, api.OK)
			checkToggle(t, nil, "a", force, nil, false, api.OK)
		}
	}
}

// P2.3: where 40 others are, it is too long only if there is something to be set.
func TestToggleFull(t *testing.T) {
	for _, force := range forces() {
		err := api.ErrLong
		if force < 0 {
			err = api.OK
		}
		checkToggle(t, many(40), "a", force, many(40), false, err)
		if force > 0 {
			checkToggle(t, many(40), "n3", force, many(40), true, api.OK)
		} else {
			checkToggle(t, many(40), "n39", force, many(39), false, api.OK)
		}
		if force >= 0 {
			checkToggle(t, many(39), "A", force, append(many(39), api.Attr{Name: "a"}), true, api.OK)
		}
	}
}

// P2.3: ErrArg and ErrName whatever the force, ErrArg first, and nothing is there then.
func TestToggleErrors(t *testing.T) {
	for _, force := range forces() {
		for _, l := range wrongLists() {
			for _, n := range append(wrongNames(), "a", "b", "n0", "A", "other") {
				checkToggle(t, l, n, force, l, false, api.ErrArg)
			}
		}
		for _, l := range rightLists() {
			for _, n := range wrongNames() {
				checkToggle(t, l, n, force, l, false, api.ErrName)
			}
		}
	}
}

func checkAlike(t *testing.T, l, m []api.Attr, alike bool) {
	t.Helper()
	guard(t, "Alike", l, func(l []api.Attr) []api.Attr {
		guard(t, "Alike", m, func(m []api.Attr) []api.Attr {
			if attr.Alike(l, m) != alike || attr.Alike(m, l) != alike {
				t.Errorf("Alike(%v, %v) = %v, the other way %v", l, m, attr.Alike(l, m), attr.Alike(m, l))
			}
			return nil
		})
		return nil
	})
}

// P2.4: the same names with the same values, in whatever order.
func TestAlike(t *testing.T) {
	l := list("a", "1", "b", "2", "c", "")
	for _, m := range [][]api.Attr{
		l,
		list("a", "1", "c", "", "b", "2"), list("b", "2", "a", "1", "c", ""), list("b", "2", "c", "", "a", "1"),
		list("c", "", "a", "1", "b", "2"), list("c", "", "b", "2", "a", "1"),
	} {
		checkAlike(t, l, m, true)
	}
	for _, m := range [][]api.Attr{
		nil, list("a", "1"), list("a", "1", "b", "2"), append(slices.Clone(l), api.Attr{Name: "d"}),
		list("a", "2", "b", "1", "c", ""), list("a", "1", "b", "2", "c", "3"), list("a", "1", "b", "2", "d", ""),
		list("a", "", "b", "", "c", ""), list("a", "1", "b", "2", "d", "", "e", ""), list("x", "1", "y", "2", "z", ""),
		list("A", "1", "b", "2", "c", ""), list("a", "1", "b", "2", "b", "2"), list("a", "1", "b", "2", "c", "", "c", ""),
	} {
		checkAlike(t, l, m, false)
	}
	checkAlike(t, nil, []api.Attr{}, true)
	turned := many(40)
	slices.Reverse(turned)
	checkAlike(t, many(40), turned, true)
	turned[7].Value = "other"
	checkAlike(t, many(40), turned, false)
}

// P2.4: a right list is like itself, a wrong one like none.
func TestAlikeWrong(t *testing.T) {
	for what, l := range wrongLists() {
		checkAlike(t, l, l, false)
		for _, m := range rightLists() {
			checkAlike(t, l, m, false)
		}
		for _, m := range wrongLists() {
			checkAlike(t, l, m, false)
		}
		if attr.Alike(l, slices.Clone(l)) {
			t.Errorf("%s: like itself, but not right", what)
		}
	}
	for what, l := range rightLists() {
		checkAlike(t, l, slices.Clone(l), true)
		for other, m := range rightLists() {
			checkAlike(t, l, m, what == other || len(l)+len(m) == 0)
		}
	}
}

// shortLists are all lists of at most three out of a few attributes, right or not.
func shortLists() [][]api.Attr {
	few := list("a", "", "a", "1", "b", "", "b", "1", "c", "", "B", "")
	all := [][]api.Attr{nil}
	for done, i := 0, 0; i < 3; i++ {
		from := all[done:]
		done = len(all)
		for _, l := range from {
			for _, a := range few {
				all = append(all, append(slices.Clone(l), a))
			}
		}
	}
	return all
}

// look goes through l by hand: is it right, and where is n (small already)?
func look(l []api.Attr, n string) (bool, int) {
	right, at := true, -1
	for i, a := range l {
		right = right && a.Name != "B"
		for _, b := range l[:i] {
			right = right && a.Name != b.Name
		}
		if a.Name == n {
			at = i
		}
	}
	return right, at
}

// P2.1 to P2.3: all calls, of all short lists.
func TestShortLists(t *testing.T) {
	for _, l := range shortLists() {
		for _, n := range []string{"a", "A", "b", "B", "c", "d"} {
			small := strings.ToLower(n)
			right, at := look(l, small)
			if attr.Right(l) != right {
				t.Errorf("Right(%v) = %v", l, !right)
			}
			if !right {
				checkGet(t, l, n, "", false)
				checkSet(t, l, n, "9", l, api.ErrArg)
				checkRemove(t, l, n, l, false)
				checkToggle(t, l, n, 0, l, false, api.ErrArg)
				continue
			}
			if at < 0 {
				checkGet(t, l, n, "", false)
				checkSet(t, l, n, "9", append(slices.Clone(l), api.Attr{Name: small, Value: "9"}), api.OK)
				checkRemove(t, l, n, l, false)
				checkToggle(t, l, n, 0, append(slices.Clone(l), api.Attr{Name: small}), true, api.OK)
				continue
			}
			set, without := slices.Clone(l), append(slices.Clone(l[:at]), l[at+1:]...)
			set[at].Value = "9"
			checkGet(t, l, n, l[at].Value, true)
			checkSet(t, l, n, "9", set, api.OK)
			checkRemove(t, l, n, without, true)
			checkToggle(t, l, n, 0, without, false, api.OK)
		}
	}
}

// P2.4: all pairs of short lists.
func TestShortListsAlike(t *testing.T) {
	byName := func(a, b api.Attr) int { return strings.Compare(a.Name, b.Name) }
	all := shortLists()
	for _, l := range all {
		for _, m := range all {
			rightL, _ := look(l, "")
			rightM, _ := look(m, "")
			want := rightL && rightM && slices.Equal(slices.SortedFunc(slices.Values(l), byName), slices.SortedFunc(slices.Values(m), byName))
			if attr.Alike(l, m) != want {
				t.Errorf("Alike(%v, %v) = %v", l, m, !want)
			}
		}
	}
}
