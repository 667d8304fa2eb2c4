package design_test

import (
	"math/big"
	"math/rand/v2"
	"slices"
	"strconv"

	"robuststats/api"
)

// drawnTable has the response y, the numbers x0 to x2 and the categories g0 to g2, in any order, each in most cases.
func drawnTable(random *rand.Rand) api.Table {
	rows := random.IntN(12)
	if random.IntN(20) == 0 {
		rows = 60 + random.IntN(20)
	}
	x := api.Table{Rows: rows}
	for _, name := range []string{"y", "x0", "x1", "x2", "g0", "g1", "g2"} {
		if random.IntN(50) > 0 {
			x.Columns = append(x.Columns, drawnColumn(random, name, rows))
		}
	}
	random.Shuffle(len(x.Columns), func(i, j int) { x.Columns[i], x.Columns[j] = x.Columns[j], x.Columns[i] })
	return x
}

func drawnColumn(random *rand.Rand, name string, rows int) api.Column {
	c := api.Column{Name: name, Kind: api.Number}
	if name[0] == 'g' || random.IntN(100) == 0 {
		c.Kind = api.Category
		for i := range random.IntN(5) {
			c.Levels = append(c.Levels, []string{"a", "", "b:c", "level=", "?"}[i]+strconv.Itoa(i))
		}
	}
	often := []int{3, 20, 500}[random.IntN(3)]
	for range rows {
		switch {
		case random.IntN(often) == 0, c.Kind == api.Category && len(c.Levels) == 0:
			c.Cells = append(c.Cells, api.Cell{Missing: true})
		case c.Kind == api.Category:
			c.Cells = append(c.Cells, api.Cell{Level: random.IntN(len(c.Levels))})
		default:
			c.Cells = append(c.Cells, api.Cell{Value: drawnNumber(random)})
		}
	}
	return c
}

func drawnNumber(random *rand.Rand) api.Rat {
	size := []int64{2, 10, 1 << 33}[random.IntN(3)]
	return fromBig(big.NewRat(random.Int64N(2*size)-size, 1+random.Int64N(size)))
}

// drawnTerm has factors in any order, with few powers.
func drawnTerm(random *rand.Rand) []api.Factor {
	var term []api.Factor
	for range 1 + random.IntN(3) {
		f := api.Factor{Name: []string{"x0", "x1", "x2", "g0", "g1", "g2", "g0", "g1", "g2"}[random.IntN(9)], Power: 1}
		if f.Name[0] == 'x' && random.IntN(3) == 0 || random.IntN(100) == 0 {
			f.Power = 1 + random.IntN(8)
		}
		if random.IntN(60) == 0 {
			f.Name = []string{"y", "unknown"}[random.IntN(2)]
		}
		if !slices.Contains(term, f) {
			term = append(term, f)
		}
	}
	return term
}

// drawnModel is a valid model, often with terms that are a part of others.
func drawnModel(random *rand.Rand) api.Model {
	m := api.Model{Response: "y", Intercept: random.IntN(2) == 0}
	if random.IntN(50) == 0 {
		m.Response = []string{"x0", "g0", "unknown"}[random.IntN(3)]
	}
	seen := map[string]bool{"": true}
	add := func(term []api.Factor) {
		if !seen[key(term, -1)] {
			seen[key(term, -1)] = true
			m.Terms = append(m.Terms, term)
		}
	}
	for range random.IntN(4) {
		term := drawnTerm(random)
		add(term)
		for i := range term {
			if random.IntN(2) == 0 {
				part := slices.Delete(slices.Clone(term), i, i+1)
				random.Shuffle(len(part), func(i, j int) { part[i], part[j] = part[j], part[i] })
				add(part)
			}
		}
	}
	slices.SortStableFunc(m.Terms, func(s, t []api.Factor) int { return len(s) - len(t) })
	return m
}

// drawnCoding is out of range in few cases.
func drawnCoding(random *rand.Rand) int {
	if random.IntN(50) == 0 {
		return []int{-1, 0, 5, 6}[random.IntN(4)]
	}
	return codings[random.IntN(4)]
}

// arguments are those of Build.
type arguments struct {
	table  api.Table
	model  api.Model
	coding int
}

// drawn are arguments of all kinds.
func drawn(seed uint64, n int) []arguments {
	random := rand.New(rand.NewPCG(12, seed))
	list := make([]arguments, n)
	for i := range list {
		list[i] = arguments{drawnTable(random), drawnModel(random), drawnCoding(random)}
	}
	return list
}

// drawnMatrix has columns that are often multiples or sums of earlier ones.
func drawnMatrix(random *rand.Rand, rows, columns int) [][]api.Rat {
	big0 := make([][]*big.Rat, rows)
	for j := range columns {
		a, b := random.IntN(j+1), random.IntN(j+1)
		v, w := big.NewRat(random.Int64N(7)-3, 1+random.Int64N(3)), big.NewRat(random.Int64N(5)-2, 1)
		depends := random.IntN(2) == 0
		for i := range big0 {
			x := toBig(drawnNumber(random))
			if depends && j == 0 {
				x = new(big.Rat)
			} else if depends {
				x = new(big.Rat).Mul(v, big0[i][a%j])
				x.Add(x, new(big.Rat).Mul(w, big0[i][b%j]))
			}
			big0[i] = append(big0[i], x)
		}
	}
	m := make([][]api.Rat, rows)
	for i, row := range big0 {
		for _, x := range row {
			m[i] = append(m[i], fromBig(x))
		}
	}
	return m
}
