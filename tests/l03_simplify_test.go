package tests

import (
	"fmt"
	"math/rand/v2"
	"slices"
	"testing"

	"loop.example/g01085/impl"
)

// isOpenEquality tells whether the first step of simplifying takes an atom.
func isOpenEquality(f impl.Formula, a impl.Atom) bool {
	return a.Rel == impl.EqualAtom && a.Args[0] != a.Args[1] && (a.Args[0] >= f.Free || a.Args[1] >= f.Free)
}

// simplifiedBy simplifies a formula, step by step as the document says.
func simplifiedBy(f impl.Formula) impl.Formula {
	f = roomyFormula(f)
	for {
		i := slices.IndexFunc(f.Atoms, func(a impl.Atom) bool { return isOpenEquality(f, a) })
		if i < 0 {
			break
		}
		greater, lesser := slices.Max(f.Atoms[i].Args), slices.Min(f.Atoms[i].Args)
		for _, a := range f.Atoms {
			for place := range a.Args {
				if a.Args[place] == greater {
					a.Args[place] = lesser
				}
			}
		}
	}
	g := impl.Formula{Free: f.Free}
	seen, used := map[string]bool{}, map[int64]bool{}
	for _, a := range f.Atoms {
		if seen[fmt.Sprint(a)] || a.Rel == impl.EqualAtom && a.Args[0] == a.Args[1] {
			continue
		}
		seen[fmt.Sprint(a)] = true
		g.Atoms = append(g.Atoms, a)
		for _, variable := range a.Args {
			used[variable] = true
		}
	}
	numbers := map[int64]int64{}
	for variable := range f.Vars {
		if variable < f.Free || used[variable] {
			numbers[variable] = g.Vars
			g.Vars++
		}
	}
	for _, a := range g.Atoms {
		for place := range a.Args {
			a.Args[place] = numbers[a.Args[place]]
		}
	}
	return g
}

func TestSimplifyFormula(t *testing.T) {
	for _, c := range []struct{ f, want string }{
		{"1 1", "1 1"}, {"1 8", "1 1"}, {"4 8", "4 4"}, {"2 2 R0:01", "2 2 R0:01"},
		// equality of a free and a bound variable, of two bound ones, of two free ones, of one twice
		{"2 3 R0:01 =:12", "2 2 R0:01"}, {"2 3 R0:02 =:12", "2 2 R0:01"}, {"2 3 R0:02 =:21", "2 2 R0:01"}, {"2 4 R0:02 R0:31 =:32", "2 3 R0:02 R0:21"}, {"1 3 =:12", "1 1"},
		{"2 2 =:01", "2 2 =:01"}, {"2 2 =:10 R0:01", "2 2 =:10 R0:01"}, {"2 3 =:00 R0:02 =:22 =:11", "2 3 R0:02"}, {"2 2 =:01 =:10 =:01", "2 2 =:01 =:10"},
		// chains, in both directions
		{"1 5 =:01 =:12 =:23 =:34 R0:44", "1 1 R0:00"}, {"1 5 =:43 =:32 =:21 =:10 R0:44", "1 1 R0:00"}, {"1 5 =:34 =:12 =:23 R0:04", "1 2 R0:01"},
		{"2 8 =:27 =:76 =:65 =:54 =:43 R0:03 R0:71", "2 3 R0:02 R0:21"},
		// what is taken first decides which equality is left of the free ones
		{"2 3 =:12 =:02 R0:22", "2 2 =:01 R0:11"}, {"2 3 =:02 =:12 R0:22", "2 2 =:10 R0:00"}, {"2 3 =:21 =:20 R0:22", "2 2 =:10 R0:11"}, {"2 3 =:20 =:21 R0:22", "2 2 =:01 R0:00"},
		{"2 4 =:23 =:13 =:03 R1:2", "2 2 =:01 R1:1"}, {"2 4 =:03 =:13 =:23 R1:2", "2 2 =:10 R1:0"}, {"3 5 =:34 =:24 =:13 =:03 R1:4", "3 3 =:12 =:02 R1:2"},
		// equalities of free variables are not taken, even if they come first
		{"2 3 =:01 =:12 R1:2", "2 2 =:01 R1:1"}, {"2 3 =:01 =:02 R1:2", "2 2 =:01 R1:0"},
		// atoms that have come before, at once or when variables have become the same
		{"2 2 R0:01 R0:01", "2 2 R0:01"}, {"2 2 R0:01 R0:10 R0:01 R0:10", "2 2 R0:01 R0:10"}, {"2 4 R0:02 R0:03 =:23", "2 3 R0:02"}, {"1 3 R2:012 R2:021 =:12", "1 2 R2:011"},
		{"2 3 R0:02 R1:2 R0:01 =:21 R1:1", "2 2 R0:01 R1:1"}, {"1 1" + repeated(" R1:0", 16), "1 1 R1:0"}, {"1 1" + repeated(" =:00", 16), "1 1"},
		// the same Args of different relations are different atoms
		{"2 2 R0:01 =:01", "2 2 R0:01 =:01"},
		// variables get lower numbers, the free ones stay
		{"2 6 R0:35", "2 4 R0:23"}, {"1 8 R0:70 R1:4", "1 3 R0:20 R1:1"}, {"3 4 R1:2", "3 3 R1:2"}, {"3 5 R1:4", "3 4 R1:3"}, {"1 8 R3:7531", "1 5 R3:4321"}, {"1 6 =:25 R0:54 R0:02", "1 3 R0:12 R0:01"},
		{"4 8 =:45 =:67 R3:0567", "4 6 R3:0455"},
	} {
		got := wantMade(t, "SimplifyFormula", fine(c.want), impl.SimplifyFormula, roomyTemplate(mixed()), roomyFormula(formula(c.f)))
		wantMade(t, "SimplifyFormula again", fine(c.want), impl.SimplifyFormula, mixed(), got)
	}
}

func TestSimplifiedFormulasAreEquivalent(t *testing.T) {
	source := rand.New(rand.NewPCG(31, 3))
	for _, x := range append(someTemplates(), mixed(), impl.Template{Size: 2}) {
		for range 12 {
			free := 1 + source.Int64N(4)
			f := randomFormula(source, x, free, free+source.Int64N(5), source.IntN(9))
			for i := range f.Atoms {
				if source.IntN(2) == 0 {
					f.Atoms[i] = impl.Atom{Rel: impl.EqualAtom, Args: []int64{source.Int64N(f.Vars), source.Int64N(f.Vars)}}
				}
			}
			got := wantMade(t, "SimplifyFormula", fine(short(simplifiedBy(f))), impl.SimplifyFormula, roomyTemplate(x), roomyFormula(f))
			wantCall(t, "AreEquivalent", []any{true, 0}, impl.AreEquivalent, x, f, got)
			if len(listsOf(x.Size, f.Vars)) <= 5000 {
				wantValue(t, "simplified formula", valueBy(x, f), x, got)
			}
		}
	}
}

func TestSimplifyLargeFormulas(t *testing.T) {
	source := rand.New(rand.NewPCG(32, 3))
	for range 40 {
		free := 1 + source.Int64N(4)
		f := randomFormula(source, largest(), free, 8, 10)
		for range 6 {
			f.Atoms = append(f.Atoms, impl.Atom{Rel: impl.EqualAtom, Args: []int64{source.Int64N(8), source.Int64N(8)}})
		}
		source.Shuffle(16, func(i, j int) { f.Atoms[i], f.Atoms[j] = f.Atoms[j], f.Atoms[i] })
		wantMade(t, "SimplifyFormula", fine(short(simplifiedBy(f))), impl.SimplifyFormula, largest(), roomyFormula(f))
	}
}
