package rack_test

import (
	"bytes"
	"cmp"
	"iter"
	"math"
	"math/rand"
	"slices"
	"strings"
	"testing"

	"tidemill/rack"
)

// entry: a key and a value.
type entry struct{ key, value int }

// plain: a rack by another way than the program's: a list, in order.
type plain []entry

// rank: how many keys are ahead of one.
func (l plain) rank(key int) int {
	ahead := 0
	for _, x := range l {
		if x.key < key {
			ahead++
		}
	}
	return ahead
}

func (l plain) has(key int) bool {
	at := l.rank(key)
	return at < len(l) && l[at].key == key
}

func (l plain) put(key, value int) plain {
	at := l.rank(key)
	if l.has(key) {
		l = slices.Delete(l, at, at+1)
	}
	return slices.Insert(l, at, entry{key, value})
}

func (l plain) drop(key int) plain {
	at := l.rank(key)
	if !l.has(key) {
		return l
	}
	return slices.Delete(l, at, at+1)
}

// gone: what a sequence gives, gone through to its end.
func gone(s iter.Seq2[int, int]) []entry {
	var l []entry
	for key, value := range s {
		l = append(l, entry{key, value})
	}
	return l
}

func backwards(l []entry) []entry {
	l = slices.Clone(l)
	slices.Reverse(l)
	return l
}

func ints() *rack.Rack[int, int] {
	return rack.New[int, int](cmp.Compare[int])
}

// of: a rack of keys, put in this order, each with ten times itself.
func of(keys ...int) *rack.Rack[int, int] {
	r := ints()
	for _, key := range keys {
		r.Put(key, 10*key)
	}
	return r
}

// listed: the entries that such a rack has.
func listed(keys ...int) plain {
	var l plain
	for _, key := range keys {
		l = l.put(key, 10*key)
	}
	return l
}

// check: are all that a rack answers, but Height, a list's answers? Keys are asked from low to high.
func check(t *testing.T, promise string, r *rack.Rack[int, int], want plain, low, high int) {
	t.Helper()
	if r.Len() != len(want) {
		t.Fatalf("%s: Len: %d, want %d", promise, r.Len(), len(want))
	}
	if l := gone(r.All()); !slices.Equal(l, want) {
		t.Fatalf("%s: All: %v, want %v", promise, l, want)
	}
	if l := gone(r.Back()); !slices.Equal(l, backwards(want)) {
		t.Fatalf("%s: Back: %v, want %v", promise, l, backwards(want))
	}
	for key := low; key <= high; key++ {
		at, value := want.rank(key), 0
		if want.has(key) {
			value = want[at].value
		}
		if v, there := r.Get(key); v != value || there != want.has(key) {
			t.Fatalf("%s: Get(%d): %d, %t, want %d, %t", promise, key, v, there, value, want.has(key))
		}
		if n := r.Rank(key); n != at {
			t.Fatalf("%s: Rank(%d): %d, want %d", promise, key, n, at)
		}
		if l := gone(r.From(key)); !slices.Equal(l, want[at:]) {
			t.Fatalf("%s: From(%d): %v, want %v", promise, key, l, want[at:])
		}
	}
	for i := -2; i <= len(want)+2; i++ {
		x, is := entry{}, i >= 0 && i < len(want)
		if is {
			x = want[i]
		}
		if k, v, there := r.At(i); k != x.key || v != x.value || there != is {
			t.Fatalf("%s: At(%d): %d, %d, %t, want %d, %d, %t", promise, i, k, v, there, x.key, x.value, is)
		}
	}
}

// checkHeight: does a rack keep to the chapter's words on its height?
func checkHeight(t *testing.T, what string, r *rack.Rack[int, int]) {
	t.Helper()
	binary := func(n int) int {
		digits := 0
		for ; n > 0; n /= 2 {
			digits++
		}
		return digits
	}
	n, h := r.Len(), r.Height()
	if 2*h > 3*binary(n+1)+2 {
		t.Fatalf("P5.1: Height %s: %d, with %d entries", what, h, n)
	}
	if h < binary(n) {
		t.Fatalf("P5.1: Height %s: %d, but %d entries don't find room there", what, h, n)
	}
}

func TestP5_1WithoutEntries(t *testing.T) {
	empty := func(name string, r *rack.Rack[int, int]) {
		check(t, "P5.1: "+name, r, nil, -2, 2)
		if r.Height() != 0 {
			t.Errorf("P5.1: %s: Height: %d", name, r.Height())
		}
		if r.Drop(0) || r.Len() != 0 || r.Height() != 0 {
			t.Errorf("P5.1: %s: Drop", name)
		}
	}
	empty("a new one", ints())
	r := of(3, 1, 2)
	for _, key := range []int{2, 3, 1} {
		r.Drop(key)
	}
	empty("one whose entries were dropped", r)
	r.Put(5, 50)
	check(t, "P5.1: one that was empty", r, listed(5), 4, 6)
	if r.Height() != 1 {
		t.Errorf("P5.1: Height of one entry: %d", r.Height())
	}
}

func TestP5_1Example(t *testing.T) {
	r := of(2, 1, 3)
	if l := gone(r.All()); !slices.Equal(l, []entry{{1, 10}, {2, 20}, {3, 30}}) {
		t.Errorf("P5.1: All: %v", l)
	}
	if l := gone(r.From(2)); !slices.Equal(l, []entry{{2, 20}, {3, 30}}) {
		t.Errorf("P5.1: From: %v", l)
	}
}

func TestP5_1PutAgain(t *testing.T) {
	// Each key in turn, so that it stands at the root, within, and at the end of the tree.
	const letters = "mfsbkpwadhlnruz"
	for _, one := range letters {
		r := rack.New[string, int](func(a, b string) int { return strings.Compare(strings.ToLower(a), strings.ToLower(b)) })
		for i, x := range letters {
			if r.Put(string(x), i) {
				t.Fatalf("P5.1: Put(%c) of a new key: it had a value", x)
			}
		}
		key, high := string(one), r.Height()
		if !r.Put(strings.ToUpper(key), 99) || r.Len() != len(letters) || r.Height() != high {
			t.Errorf("P5.1: Put(%s) again: Len %d, Height %d", key, r.Len(), r.Height())
		}
		if v, there := r.Get(key); v != 99 || !there {
			t.Errorf("P5.1: Get(%s) behind Put again: %d, %t", key, v, there)
		}
		if k, v, there := r.At(r.Rank(key)); k != key || v != 99 || !there {
			t.Errorf("P5.1: the key that stands: %s, %d, want %s, 99", k, v, key)
		}
		for k, v := range r.All() {
			if k != strings.ToLower(k) || k != key && v != strings.Index(letters, k) {
				t.Errorf("P5.1: Put(%s) again: %s has %d", key, k, v)
			}
		}
		// Only once it is gone may another key that is the same stand there.
		if !r.Drop(key) || r.Put(strings.ToUpper(key), 7) {
			t.Errorf("P5.1: Put(%s) behind Drop", key)
		}
		if k, v, _ := r.At(r.Rank(key)); k != strings.ToUpper(key) || v != 7 {
			t.Errorf("P5.1: Put(%s) behind Drop: %s, %d", key, k, v)
		}
	}
}

func TestP5_1ZeroValuesAreValues(t *testing.T) {
	r := rack.New[string, *int](strings.Compare)
	if r.Put("", nil) || r.Len() != 1 {
		t.Error("P5.1: Put of a zero value")
	}
	if _, there := r.Get(""); !there || !r.Put("", nil) || !r.Drop("") || r.Drop("") {
		t.Error("P5.1: a zero value isn't none")
	}
}

func TestP5_1DropOfWhatIsNotThere(t *testing.T) {
	keys := []int{8, 4, 12, 2, 6, 10, 14}
	r, want := of(keys...), listed(keys...)
	high := r.Height()
	for key := 1; key <= 15; key += 2 {
		if r.Drop(key) {
			t.Errorf("P5.1: Drop(%d) of what isn't there", key)
		}
		check(t, "P5.1: behind such a Drop", r, want, 0, 16)
		if r.Height() != high {
			t.Errorf("P5.1: Drop(%d) of what isn't there: Height %d, want %d", key, r.Height(), high)
		}
	}
	for _, key := range keys {
		r, want := of(keys...), listed(keys...).drop(key)
		if !r.Drop(key) {
			t.Errorf("P5.1: Drop(%d)", key)
		}
		check(t, "P5.1: behind Drop", r, want, 0, 16)
		if r.Drop(key) {
			t.Errorf("P5.1: Drop(%d) twice", key)
		}
		check(t, "P5.1: behind Drop twice", r, want, 0, 16)
	}
}

func TestP5_1Places(t *testing.T) {
	r := of(4, 2, 6, 1, 3, 5, 7)
	for i := range 7 {
		if k, v, there := r.At(i); k != i+1 || v != 10*(i+1) || !there || r.Rank(k) != i {
			t.Errorf("P5.1: At(%d): %d, %d, %t", i, k, v, there)
		}
	}
	for _, i := range []int{math.MinInt, math.MinInt + 1, -8, -7, -1, 7, 8, 15, math.MaxInt - 1, math.MaxInt} {
		if k, v, there := r.At(i); k != 0 || v != 0 || there {
			t.Errorf("P5.1: At(%d): %d, %d, %t, want none", i, k, v, there)
		}
	}
}

func TestP5_1KeysThatAreNotThere(t *testing.T) {
	for n := range 20 {
		var keys []int
		for i := range n {
			keys = append(keys, 3*i)
		}
		check(t, "P5.1: keys with gaps", of(keys...), listed(keys...), -3, 3*n+3)
	}
	r := of(-5, 0, 5)
	if r.Rank(math.MinInt) != 0 || r.Rank(math.MaxInt) != 3 || len(gone(r.From(math.MinInt))) != 3 || len(gone(r.From(math.MaxInt))) != 0 {
		t.Error("P5.1: Rank, From at the ends of the ints")
	}
}

func TestP5_1SequencesEndWhenTold(t *testing.T) {
	const n = 31
	r := ints()
	for _, key := range rand.New(rand.NewSource(51)).Perm(n) {
		r.Put(key, 10*key)
	}
	all := gone(r.All())
	for name, c := range map[string]struct {
		s    iter.Seq2[int, int]
		want []entry
	}{
		"All":     {r.All(), all},
		"Back":    {r.Back(), backwards(all)},
		"From 0":  {r.From(0), all},
		"From 11": {r.From(11), all[11:]},
		"From 30": {r.From(30), all[30:]},
	} {
		for asked := 1; asked <= len(c.want); asked++ {
			var given []entry
			c.s(func(key, value int) bool {
				given = append(given, entry{key, value})
				return len(given) < asked
			})
			if !slices.Equal(given, c.want[:asked]) {
				t.Errorf("P5.1: %s, %d asked: %v, want %v", name, asked, given, c.want[:asked])
			}
		}
		for range 2 {
			if l := gone(c.s); !slices.Equal(l, c.want) {
				t.Errorf("P5.1: %s, gone through again: %v, want %v", name, l, c.want)
			}
		}
	}
	check(t, "P5.1: behind sequences", r, all, -1, n)
}

func TestP5_1HeightOfRisingAndFallingKeys(t *testing.T) {
	const n = 5000
	for name, key := range map[string]func(i int) int{
		"of rising keys":     func(i int) int { return i },
		"of falling keys":    func(i int) int { return -i },
		"of keys inwards":    func(i int) int { return (n - i) * (1 - 2*(i%2)) },
		"of keys outwards":   func(i int) int { return i * (1 - 2*(i%2)) },
		"of scattered keys":  func(i int) int { return i * 2801 % n },
		"of keys that recur": func(i int) int { return i % 70 },
	} {
		r := ints()
		for i := range n {
			r.Put(key(i), i)
			checkHeight(t, name, r)
		}
	}
}

func TestP5_1HeightBehindDrops(t *testing.T) {
	const n = 3000
	random := rand.New(rand.NewSource(52)).Perm(n)
	for name, key := range map[string]func(i int) int{
		"behind drops from below":     func(i int) int { return i },
		"behind drops from above":     func(i int) int { return n - 1 - i },
		"behind drops from within":    func(i int) int { return (n + i) / 2 % n },
		"behind scattered drops":      func(i int) int { return random[i] },
		"behind drops of every other": func(i int) int { return 2 * i % (n - 1) },
	} {
		r := ints()
		for i := range n {
			r.Put(i, i)
		}
		for i := range n {
			r.Drop(key(i))
			checkHeight(t, name, r)
		}
	}
}

func TestP5_1HeightBehindDropsThatSpareThePath(t *testing.T) {
	// All goes but what the least key is found by: a tree that isn't evened becomes a list.
	const n = 1 << 12
	var path []int
	r := rack.New[int, int](func(a, b int) int { path = append(path, b); return cmp.Compare(a, b) })
	for key := range n {
		r.Put(key, key)
	}
	for level := 0; ; {
		path = nil
		r.Get(0)
		found := append([]int{n}, path...)
		if level+1 >= len(found) {
			break
		}
		own, above := found[level+1], found[level]
		switch {
		case r.Rank(above)-r.Rank(own) == 1:
			level++ // nothing stands at its right
		case level%2 == 0:
			r.Drop(own)
		default:
			r.Drop(above - 1)
			r.Drop(own + 1)
		}
		checkHeight(t, "behind drops that spare the path", r)
	}
}

func TestP5_1HeightBehindDropsThatSpareASide(t *testing.T) {
	const n = 1<<12 - 1
	for name, turned := range map[string]func(key int) int{
		"behind drops that spare the left side":  func(key int) int { return key },
		"behind drops that spare the right side": func(key int) int { return n - 1 - key },
	} {
		r := ints()
		for key := range n {
			r.Put(key, key)
		}
		for key := n - 1; key >= 0; key-- {
			// One less than a power of 2: those that stand at the outermost of an even tree.
			if key&(key+1) != 0 {
				r.Drop(turned(key))
				checkHeight(t, name, r)
			}
		}
		if r.Len() != 12 {
			t.Fatalf("P5.1: Len %s: %d", name, r.Len())
		}
	}
}

func TestP5_1HeightOfTheThinnestTrees(t *testing.T) {
	// Of such a height no fewer entries do, and each drop from the lower side makes it turn.
	var thin func(low, height int) (keys []int, next int)
	thin = func(low, height int) ([]int, int) {
		if height <= 0 {
			return nil, low
		}
		left, own := thin(low, height-2)
		right, next := thin(own+1, height-1)
		return slices.Concat([]int{own}, left, right), next
	}
	for height := range 14 {
		keys, n := thin(0, height)
		for key := 0; key < n; key += 1 + n/100 {
			r := of(byLevel(keys)...)
			if r.Len() != n || r.Height() != height {
				t.Fatalf("P5.1: %d entries: Height %d, want %d of %d", r.Len(), r.Height(), height, n)
			}
			r.Drop(key)
			checkHeight(t, "of the thinnest, behind a drop", r)
			check(t, "P5.1: the thinnest, behind a drop", r, listed(keys...).drop(key), max(0, key-2), min(n, key+2))
		}
	}
}

// byLevel: keys that stand a root ahead of its sides, in the order of a search tree's levels, so that no tree turns as they are put.
func byLevel(keys []int) []int {
	var out []int
	for rows := [][]int{keys}; len(rows) > 0; {
		l := rows[0]
		rows = rows[1:]
		if len(l) == 0 {
			continue
		}
		out = append(out, l[0])
		at := 1
		for at < len(l) && l[at] < l[0] {
			at++
		}
		rows = append(rows, l[1:at], l[at:])
	}
	return out
}

func TestP5_1HeightIsTheTrees(t *testing.T) {
	// A key is looked for with a comparison a level: the deepest one tells how many there are.
	compared := 0
	r := rack.New[int, int](func(a, b int) int { compared++; return cmp.Compare(a, b) })
	deepest := func() int {
		most := 0
		for key := range r.All() {
			compared = 0
			r.Get(key)
			most = max(most, compared)
		}
		return most
	}
	random := rand.New(rand.NewSource(53))
	for step := range 1500 {
		if key := random.Intn(200); random.Intn(1500) > step {
			r.Put(key, key)
		} else {
			r.Drop(key)
		}
		if h := deepest(); h != r.Height() {
			t.Fatalf("P5.1: Height: %d, but the deepest key takes %d comparisons", r.Height(), h)
		}
	}
}

func TestP5_1AnyCalls(t *testing.T) {
	for seed := range int64(60) {
		random := rand.New(rand.NewSource(seed))
		r, want := ints(), plain(nil)
		keys := 1 + random.Intn(60)
		drops := 1 + random.Intn(9) // of ten
		for step := range 300 {
			key := random.Intn(keys)
			was := want.has(key)
			if random.Intn(10) >= drops {
				want = want.put(key, step)
				if had := r.Put(key, step); had != was {
					t.Fatalf("P5.1: Put(%d): %t, want %t", key, had, was)
				}
			} else {
				want = want.drop(key)
				if had := r.Drop(key); had != was {
					t.Fatalf("P5.1: Drop(%d): %t, want %t", key, had, was)
				}
			}
			checkHeight(t, "behind any calls", r)
			check(t, "P5.1: any calls", r, want, -1, keys)
		}
	}
}

func TestP5_1AnyOrderIsOne(t *testing.T) {
	// What a comparison answers counts by its sign alone.
	far := func(a, b int) int {
		switch {
		case a < b:
			return math.MinInt
		case a > b:
			return math.MaxInt
		}
		return 0
	}
	r := rack.New[int, int](far)
	falling := rack.New[int, int](func(a, b int) int { return far(b, a) })
	for _, key := range []int{5, 1, 4, 2, 3, 9, 7} {
		r.Put(key, 10*key)
		falling.Put(key, 10*key)
	}
	want := listed(1, 2, 3, 4, 5, 7, 9)
	check(t, "P5.1: a comparison that answers the ends of the ints", r, want, 0, 10)
	if l := gone(falling.All()); !slices.Equal(l, backwards(want)) || falling.Rank(6) != 2 || falling.Rank(9) != 0 {
		t.Errorf("P5.1: an order that falls: %v, Rank %d", l, falling.Rank(6))
	}
	if l := gone(falling.From(4)); !slices.Equal(l, []entry{{4, 40}, {3, 30}, {2, 20}, {1, 10}}) {
		t.Errorf("P5.1: an order that falls: From: %v", l)
	}
}

func TestP5_1AnyKeysAndValues(t *testing.T) {
	// Neither need be comparable.
	r := rack.New[[]byte, func() string](bytes.Compare)
	for _, s := range strings.Fields("pear fig apple plum") {
		r.Put([]byte(s), func() string { return "a " + s })
	}
	told := ""
	for key, value := range r.From([]byte("g")) {
		told += string(key) + ": " + value() + "; "
	}
	if told != "pear: a pear; plum: a plum; " {
		t.Errorf("P5.1: keys and values of any kind: %s", told)
	}
}

func TestP5_2EveryOrderOfFewKeys(t *testing.T) {
	for n := range 8 {
		want := plain(nil)
		keys := make([]int, n)
		for i := range keys {
			keys[i] = 2 * i
			want = want.put(2*i, 20*i)
		}
		orders := 0
		for order := range ordersOf(keys) {
			orders++
			check(t, "P5.2: another order", of(order...), want, -1, 2*n)
		}
		if fact := []int{1, 1, 2, 6, 24, 120, 720, 5040}; orders != fact[n] {
			t.Fatalf("%d orders of %d keys", orders, n)
		}
	}
}

// ordersOf: all orders of some keys.
func ordersOf(keys []int) iter.Seq[[]int] {
	return func(yield func([]int) bool) {
		if len(keys) == 0 {
			yield(nil)
			return
		}
		for i, first := range keys {
			for rest := range ordersOf(slices.Delete(slices.Clone(keys), i, i+1)) {
				if !yield(append([]int{first}, rest...)) {
					return
				}
			}
		}
	}
}

func TestP5_2OrdersOfManyKeys(t *testing.T) {
	random := rand.New(rand.NewSource(54))
	const n = 300
	want := plain(nil)
	for key := range n {
		want = want.put(key, 10*key)
	}
	for range 10 {
		check(t, "P5.2: another order", of(random.Perm(n)...), want, -1, n)
	}
}

func TestP5_2DropsInAnyOrder(t *testing.T) {
	keys := []int{1, 2, 3, 4, 5, 6}
	want := listed(2, 5, 7)
	for order := range ordersOf(keys) {
		r := of(order...)
		r.Put(7, 0)
		for _, key := range order {
			if key != 2 && key != 5 && !r.Drop(key) {
				t.Fatalf("P5.2: Drop(%d)", key)
			}
		}
		r.Put(7, 70)
		check(t, "P5.2: what was dropped in another order", r, want, 0, 8)
	}
}

func TestP7WithoutAComparison(t *testing.T) {
	r := rack.New[int, int](nil)
	if r.Put(1, 10) || !r.Put(2, 20) || r.Len() != 1 || r.Rank(9) != 0 {
		t.Error("P7: keys that nothing tells apart are the same")
	}
	if l := gone(r.From(5)); !slices.Equal(l, []entry{{1, 20}}) {
		t.Errorf("P7: without a comparison: %v", l)
	}
	if !r.Drop(3) || r.Drop(3) || r.Height() != 0 {
		t.Error("P7: Drop without a comparison")
	}
}

func TestP7AComparisonThatIsNoOrder(t *testing.T) {
	random := rand.New(rand.NewSource(55))
	for name, compare := range map[string]func(a, b int) int{
		"always ahead":  func(a, b int) int { return -1 },
		"always behind": func(a, b int) int { return 1 },
		"at random":     func(a, b int) int { return random.Intn(3) - 1 },
		"in a round":    func(a, b int) int { return (a-b+300)%3 - 1 },
	} {
		r := rack.New[int, int](compare)
		for step := range 2000 {
			key, before := random.Intn(100), r.Len()
			switch random.Intn(3) {
			case 0:
				if gone := r.Drop(key); gone != (r.Len() == before-1) || !gone && r.Len() != before {
					t.Fatalf("P7: %s: Drop: %t, Len %d, then %d", name, gone, before, r.Len())
				}
			default:
				if had := r.Put(key, step); had != (r.Len() == before) || !had && r.Len() != before+1 {
					t.Fatalf("P7: %s: Put: %t, Len %d, then %d", name, had, before, r.Len())
				}
			}
			r.Get(key)
			checkHeight(t, name, r)
			if n := r.Rank(key); n < 0 || n > r.Len() {
				t.Fatalf("P7: %s: Rank: %d of %d", name, n, r.Len())
			}
			if all := gone(r.All()); len(all) != r.Len() || !slices.Equal(gone(r.Back()), backwards(all)) || len(gone(r.From(key))) > len(all) {
				t.Fatalf("P7: %s: All: %d of %d", name, len(all), r.Len())
			}
		}
	}
}

func TestP7AConsumerThatChangesTheRack(t *testing.T) {
	for name, of := range map[string]func(r *rack.Rack[int, int]) iter.Seq2[int, int]{
		"All":  func(r *rack.Rack[int, int]) iter.Seq2[int, int] { return r.All() },
		"From": func(r *rack.Rack[int, int]) iter.Seq2[int, int] { return r.From(-1) },
		"Back": func(r *rack.Rack[int, int]) iter.Seq2[int, int] { return r.Back() },
	} {
		r := ints()
		for key := range 100 {
			r.Put(key, key)
		}
		given := 0
		for key := range of(r) {
			given++
			r.Drop(key)
			r.Put(1000+key, key)
			r.Put(-1000-key, key)
		}
		if given != 100 || r.Len() != 200 {
			t.Errorf("P7: %s: %d given, Len %d, want 100, 200", name, given, r.Len())
		}
	}
}

func TestP8SequencesKeepNothingThatIsHandedIn(t *testing.T) {
	r := rack.New[[]byte, int](bytes.Compare)
	for i, s := range strings.Fields("a b c d") {
		r.Put([]byte(s), i)
	}
	key := []byte("c")
	from := r.From(key)
	key[0] = 'a'
	told := ""
	for k := range from {
		told += string(k)
	}
	if told != "cd" {
		t.Errorf("P8: R6: From, when its key has changed since: %s, want cd", told)
	}
}

func TestP8SequencesGiveTheSameAgain(t *testing.T) {
	r, other := of(1, 2, 3, 4, 5), of(1, 2, 3, 4, 5)
	all, from, back := r.All(), r.From(3), r.Back()
	want := gone(all)
	r.Put(4, 0)
	r.Drop(3)
	r.Put(9, 90)
	if !slices.Equal(gone(all), want) || !slices.Equal(gone(from), want[2:]) || !slices.Equal(gone(back), backwards(want)) {
		t.Errorf("P8: R9: when the rack has changed since: %v, %v, %v", gone(all), gone(from), gone(back))
	}
	check(t, "P8: R8: a rack that hasn't changed", other, listed(1, 2, 3, 4, 5), 0, 10)
}
