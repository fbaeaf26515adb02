package vector_test

import (
	"testing"

	"barrow/api"
	"barrow/vector"
)

func TestNormIsTheFormOfTheVector(t *testing.T) { // P3.1
	for _, v := range samples(2000) {
		if got, want := vector.Norm(v), inForm(v); !same(got, want) {
			t.Errorf("Norm(%v) = %v, want %v", v, got, want)
		}
	}
	for _, c := range []struct{ v, want []int }{
		{[]int{3, -1, 12, 0}, []int{3, 0, 12}}, {[]int{0, 0}, nil}, {[]int{2000000000}, []int{1000000000}}, {repeated(5, 17), repeated(5, 16)},
		{[]int{leastInt, greatInt}, []int{0, most}}, {append(lastPlace(0), 7), nil}, {lastPlace(1), lastPlace(1)},
	} {
		if got := vector.Norm(c.v); !same(got, c.want) {
			t.Errorf("Norm(%v) = %v, want %v", c.v, got, c.want)
		}
	}
}

func TestNormsAreEqualJustIfTheVectorsAre(t *testing.T) { // P3.1
	pairs(150, func(a, b []int) {
		if got, want := same(vector.Norm(a), vector.Norm(b)), stand(a, b) == api.Same; got != want {
			t.Errorf("the Norms of %v and %v are equal: %v, want %v", a, b, got, want)
		}
	})
}

func TestIsNorm(t *testing.T) { // P3.1
	for _, v := range samples(2000) {
		if got, want := vector.IsNorm(v), same(v, inForm(v)); got != want {
			t.Errorf("IsNorm(%v) = %v, want %v", v, got, want)
		}
		if !vector.IsNorm(vector.Norm(v)) {
			t.Errorf("IsNorm(Norm(%v)) = false", v)
		}
	}
	for _, v := range [][]int{nil, {}, {1}, {0, 1}, {most}, repeated(most, 16), lastPlace(1)} {
		if !vector.IsNorm(v) {
			t.Errorf("IsNorm(%v) = false", v)
		}
	}
	for _, v := range [][]int{{0}, {1, 0}, {-1, 1}, {1, -1}, {most + 1}, {most + 1, 1}, {greatInt}, {leastInt, 1}, repeated(1, 17), append(repeated(0, 16), 1), repeated(0, 16)} {
		if vector.IsNorm(v) {
			t.Errorf("IsNorm(%v) = true", v)
		}
	}
}

func TestAt(t *testing.T) { // P3.1
	for _, v := range samples(300) {
		for rep := range reps {
			if got, want := vector.At(v, rep), number(v, rep); got != want {
				t.Errorf("At(%v, %d) = %d, want %d", v, rep, got, want)
			}
		}
		for _, rep := range []int{leastInt, -1, 16, 17, greatInt} {
			if got := vector.At(v, rep); got != 0 {
				t.Errorf("At(%v, %d) = %d", v, rep, got)
			}
		}
	}
	v := []int{3, 0, 12}
	if vector.At(v, 2) != 12 || vector.At(v, 3) != 0 || vector.At(v, -1) != 0 || vector.At(v, 16) != 0 {
		t.Errorf("At of %v", v)
	}
}

func TestHas(t *testing.T) { // P3.1
	nums := []int{leastInt, -1, 0, 1, 2, 3, 4, 5, 6, 12, 13, most - 1, most, most + 1, greatInt}
	for _, v := range samples(100) {
		for rep := -1; rep <= 17; rep++ {
			for _, n := range nums {
				want := 0 <= rep && rep < reps && n >= 1 && n <= number(v, max(rep, 0))
				if got := vector.Has(v, api.Dot{Rep: rep, Num: n}); got != want {
					t.Errorf("Has(%v, (%d, %d)) = %v", v, rep, n, got)
				}
			}
		}
	}
	for _, rep := range []int{leastInt, -1, 16, greatInt} {
		if vector.Has(repeated(5, 20), api.Dot{Rep: rep, Num: 1}) {
			t.Errorf("Has of a dot of replica %d", rep)
		}
	}
	v := []int{3, 0, 12}
	if !vector.Has(v, api.Dot{Rep: 0, Num: 3}) {
		t.Errorf("Has(%v, (0, 3)) = false", v)
	}
	for _, d := range []api.Dot{{Rep: 0, Num: 4}, {Rep: 0, Num: 0}, {Rep: 1, Num: 1}, {Rep: -1, Num: 1}, {Rep: 16, Num: 1}} {
		if vector.Has(v, d) {
			t.Errorf("Has(%v, %v) = true", v, d)
		}
	}
}

func TestSum(t *testing.T) { // P3.1
	for _, v := range samples(500) {
		if got, want := vector.Sum(v), total(v); got != want {
			t.Errorf("Sum(%v) = %d, want %d", v, got, want)
		}
	}
	if got := vector.Sum(repeated(greatInt, 40)); got != 16*most {
		t.Errorf("Sum of the greatest vector = %d", got)
	}
	if got := vector.Sum([]int{3, -7, 12}); got != 15 {
		t.Errorf("Sum = %d, want 15", got)
	}
}

func TestPut(t *testing.T) { // P3.2
	for _, v := range samples(100) {
		for rep := range reps {
			for _, n := range []int{0, 1, 7, most - 1, most} {
				want := form(func(i int) int {
					if i == rep {
						return n
					}
					return number(v, i)
				})
				if got, err := vector.Put(v, rep, n); err != api.OK || !same(got, want) {
					t.Errorf("Put(%v, %d, %d) = %v, %d, want %v", v, rep, n, got, err, want)
				}
			}
		}
	}
	if got, err := vector.Put([]int{1, 2, 3}, 2, 0); err != api.OK || !same(got, []int{1, 2}) {
		t.Errorf("Put of 0 at the last place = %v, %d", got, err)
	}
}

func TestPutRefuses(t *testing.T) { // P3.2
	for _, v := range [][]int{nil, {1, 2}, repeated(5, 20)} {
		for _, n := range []int{leastInt, -1, 0, 3, most, most + 1, greatInt} {
			for _, rep := range []int{leastInt, -1, 16, greatInt} {
				if got, err := vector.Put(v, rep, n); err != api.ErrRep || len(got) != 0 {
					t.Errorf("Put(%v, %d, %d) = %v, %d", v, rep, n, got, err)
				}
			}
			for _, rep := range []int{0, 15} {
				if got, err := vector.Put(v, rep, n); (n < 0 || n > most) && (err != api.ErrArg || len(got) != 0) {
					t.Errorf("Put(%v, %d, %d) = %v, %d", v, rep, n, got, err)
				}
			}
		}
	}
}

func TestBump(t *testing.T) { // P3.2
	limits := []int{leastInt, -1, 0, 1, 2, 3, 4, 5, most - 1, most, most + 1, greatInt}
	for _, v := range samples(100) {
		for rep := range reps {
			for _, limit := range limits {
				checkBump(t, v, rep, limit)
			}
		}
	}
	for _, c := range []struct {
		v          []int
		rep, limit int
		want       []int
		dot        api.Dot
		err        api.Errno
	}{
		{[]int{3}, 2, 10, []int{3, 0, 1}, api.Dot{Rep: 2, Num: 1}, api.OK}, {[]int{10}, 0, 10, nil, api.Dot{}, api.ErrCount}, {nil, 16, 0, nil, api.Dot{}, api.ErrRep},
		{[]int{-5}, 0, 1, []int{1}, api.Dot{Rep: 0, Num: 1}, api.OK}, {[]int{1000000000}, 0, 2000000000, nil, api.Dot{}, api.ErrCount}, {nil, 0, 0, nil, api.Dot{}, api.ErrCount},
		{[]int{most - 1}, 0, greatInt, []int{most}, api.Dot{Rep: 0, Num: most}, api.OK}, {nil, -1, 5, nil, api.Dot{}, api.ErrRep}, {repeated(1, 20), 16, 5, nil, api.Dot{}, api.ErrRep},
		{nil, leastInt, 5, nil, api.Dot{}, api.ErrRep}, {nil, greatInt, 5, nil, api.Dot{}, api.ErrRep}, {[]int{9}, 0, 10, []int{10}, api.Dot{Rep: 0, Num: 10}, api.OK}, {[]int{11}, 0, 10, nil, api.Dot{}, api.ErrCount},
	} {
		if got, dot, err := vector.Bump(c.v, c.rep, c.limit); !same(got, c.want) || dot != c.dot || err != c.err {
			t.Errorf("Bump(%v, %d, %d) = %v, %v, %d", c.v, c.rep, c.limit, got, dot, err)
		}
	}
}

func checkBump(t *testing.T, v []int, rep, limit int) {
	t.Helper()
	got, dot, err := vector.Bump(v, rep, limit)
	if n := number(v, rep); n >= limit || n >= most {
		if err != api.ErrCount || len(got) != 0 || dot != (api.Dot{}) {
			t.Errorf("Bump(%v, %d, %d) = %v, %v, %d", v, rep, limit, got, dot, err)
		}
		return
	}
	want := form(func(i int) int {
		if i == rep {
			return number(v, i) + 1
		}
		return number(v, i)
	})
	if err != api.OK || !same(got, want) || dot != (api.Dot{Rep: rep, Num: number(v, rep) + 1}) {
		t.Errorf("Bump(%v, %d, %d) = %v, %v, %d", v, rep, limit, got, dot, err)
	}
	if vector.Order(got, v) != api.After || vector.Sum(got) != vector.Sum(v)+1 || !vector.Has(got, dot) || vector.Has(v, dot) {
		t.Errorf("Bump(%v, %d, %d) = %v, %v isn't one dot more", v, rep, limit, got, dot)
	}
}
