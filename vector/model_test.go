package vector_test

import (
	"math"
	"math/rand/v2"
	"slices"

	"barrow/api"
)

const (
	reps     = api.MaxReps
	most     = api.MaxNum
	leastInt = math.MinInt
	greatInt = math.MaxInt
)

// same: one list, place by place, where nil and empty are one.
func same(a, b []int) bool { return slices.Equal(a, b) }

func sameLists(a, b [][]int) bool { return slices.EqualFunc(a, b, same) }

// number is the chapter's definition of the vector of a list, word by word.
func number(v []int, rep int) int {
	switch {
	case rep >= len(v) || v[rep] < 0:
		return 0
	case v[rep] > most:
		return most
	}
	return v[rep]
}

// form: the list in form of the vector that has those numbers.
func form(at func(rep int) int) []int {
	var list []int
	for rep := range reps {
		list = append(list, at(rep))
	}
	for len(list) > 0 && list[len(list)-1] == 0 {
		list = list[:len(list)-1]
	}
	return list
}

// inForm: the list in form that means v's vector.
func inForm(v []int) []int { return form(func(rep int) int { return number(v, rep) }) }

func total(v []int) int {
	sum := 0
	for rep := range reps {
		sum += number(v, rep)
	}
	return sum
}

// repeated: a list of so many places, all the same.
func repeated(n, count int) []int { return slices.Repeat([]int{n}, count) }

// lastPlace: noughts, and n at replica 15.
func lastPlace(n int) []int { return append(make([]int, reps-1), n) }

// edges: lists at and beyond all bounds.
func edges() [][]int {
	return [][]int{
		nil, {}, {0}, {0, 0}, {-1}, {leastInt}, {greatInt}, {most}, {most + 1}, {most - 1}, {3, -1, 12, 0}, {3, 0, 12}, {0, 3, 0, 5},
		repeated(5, 17), repeated(5, 16), repeated(5, 15), repeated(0, 16), repeated(0, 40), repeated(most, 16), repeated(greatInt, 16), repeated(leastInt, 20), repeated(most-1, 16),
		lastPlace(1), lastPlace(0), lastPlace(-1), lastPlace(most), append(lastPlace(0), 7), append(lastPlace(2), 7, 8), {leastInt, greatInt}, {0, 0, 1, -5},
	}
}

// samples: the same lists at every run of the tests; most are short and have small numbers, so that many a two stand in some order.
func samples(count int) [][]int {
	dice := rand.New(rand.NewPCG(3, 4))
	all := edges()
	for range count {
		all = append(all, sample(dice))
	}
	return all
}

func sample(dice *rand.Rand) []int {
	length := dice.IntN(4)
	if dice.IntN(5) == 0 {
		length = dice.IntN(19)
	}
	v := make([]int, length)
	for i := range v {
		v[i] = dice.IntN(5) - 1
		if dice.IntN(30) == 0 {
			v[i] = []int{most, most + 1, greatInt, leastInt}[dice.IntN(4)]
		}
	}
	return v
}

// pairs: lists by two.
func pairs(count int, ask func(a, b []int)) {
	all := samples(count)
	for _, a := range all {
		for _, b := range all {
			ask(a, b)
		}
	}
}

// stand is the chapter's definition of Order, word by word.
func stand(a, b []int) int {
	more, less := false, false
	for rep := range reps {
		more = more || number(a, rep) > number(b, rep)
		less = less || number(a, rep) < number(b, rep)
	}
	switch {
	case more && less:
		return api.Apart
	case more:
		return api.After
	case less:
		return api.Before
	}
	return api.Same
}

// comparison is the chapter's definition of Compare, word by word.
func comparison(a, b []int) int {
	if total(a) < total(b) {
		return -1
	}
	if total(a) > total(b) {
		return 1
	}
	for rep := range reps {
		if number(a, rep) < number(b, rep) {
			return -1
		}
		if number(a, rep) > number(b, rep) {
			return 1
		}
	}
	return 0
}
