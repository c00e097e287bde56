package sem_test

import (
	"testing"

	"augur/api"
	"augur/sem"
)

const lists = `type list(T) = nil | cons(T, list(T)).
pred append(list(T), list(T), list(T)). mode append(in, in, out) is det. mode append(out, out, in) is multi. mode append(in, in, in) is semidet.
append(nil, Y, Y). append(cons(H, T), Y, cons(H, Z)) :- append(T, Y, Z).
pred member(T, list(T)). mode member(out, in) is nondet. mode member(in, in) is nondet.
member(X, cons(X, _)). member(X, cons(_, T)) :- member(X, T).
pred reverse(list(T), list(T)). mode reverse(in, out) is det.
reverse(nil, nil). reverse(cons(H, T), R) :- reverse(T, S), append(S, cons(H, nil), R).
pred take(T, list(T), list(T)). mode take(out, in, out) is nondet. mode take(in, out, in) is nondet.
take(X, cons(X, T), T). take(X, cons(H, T), cons(H, R)) :- take(X, T, R).
pred perm(list(T), list(T)). mode perm(in, out) is nondet.
perm(nil, nil). perm(L, cons(X, P)) :- take(X, L, R), perm(R, P).
pred length(list(T), int). mode length(in, out) is det.
length(nil, 0). length(cons(_, T), N) :- length(T, M), add(M, 1, N).
pred has(T, list(T)). mode has(in, in) is semidet.
has(X, L) :- not lacks(X, L).
pred lacks(T, list(T)). mode lacks(in, in) is semidet.
lacks(_, nil). lacks(X, cons(Y, T)) :- not X = Y, lacks(X, T).
`

const numbers = `type t = z | s(t). type maybe(T) = no | yes(T).
pred half(int, int). mode half(in, out) is det. half(X, Y) :- div(X, 2, Y).
pred none(int, int). mode none(in, out) is det. none(X, Y) :- div(X, 0, Y).
pred safe(int, int). mode safe(in, out) is det. mode safe(in, in) is semidet. safe(X, Y) :- try div(1, X, Y) catch E then Y = E.
pred even(t). mode even(in) is semidet. even(z). even(s(s(X))) :- even(X).
pred number(int, t). mode number(in, out) is nondet. number(0, z). number(N, s(T)) :- lt(0, N), sub(N, 1, M), number(M, T).
pred from(int, int, int). mode from(in, in, out) is nondet.
from(A, B, A) :- le(A, B). from(A, B, X) :- lt(A, B), add(A, 1, C), from(C, B, X).
pred root(int, int). mode root(in, out) is nondet. root(N, X) :- from(0, N, X), mul(X, X, N).
pred prime(int). mode prime(in) is semidet. prime(N) :- lt(1, N), not divided(2, N).
pred divided(int, int). mode divided(in, in) is semidet. divided(D, N) :- lt(D, N), not (not mod(N, D, 0), not (add(D, 1, E), divided(E, N))).
pred primes(int, int). mode primes(in, out) is nondet. primes(N, P) :- from(1, N, P), prime(P).
pred fact(int, int). mode fact(in, out) is nondet. fact(0, 1). fact(N, F) :- lt(0, N), sub(N, 1, M), fact(M, G), mul(N, G, F).
pred first(int, maybe(int)). mode first(in, out) is multi. first(N, yes(P)) :- primes(N, P). first(_, no).
pred pick(int, int). mode pick(in, out) is nondet. pick(N, X) :- from(1, N, X), (X = 2 ; X = 3, throw X ; lt(X, 2)).
pred deep(int, int). mode deep(in, out) is det. deep(N, X) :- try (sub(N, 1, M), throw M, X = M) catch E then try (throw E, X = E) catch F then add(E, F, X).
`

// P11.1: sources of all sorts, among them the document's examples.
func TestSources(t *testing.T) {
	append123 := "cons(1, cons(2, cons(3, nil)))"
	for _, r := range []struct {
		source, call, in, want string
		raises                 int
	}{
		{lists, "append/3'0", "cons(1, nil) | cons(2, nil)", "cons(1, cons(2, nil))", 0},
		{lists, "append/3'0", "nil | nil", "nil", 0},
		{lists, "append/3'1", "cons(1, nil)", "nil, cons(1, nil) ; cons(1, nil), nil", 0},
		{lists, "append/3'1", "nil", "nil, nil", 0},
		{lists, "append/3'2", "cons(1, nil) | cons(2, nil) | cons(1, cons(2, nil))", "true", 0},
		{lists, "append/3'2", "cons(1, nil) | cons(2, nil) | cons(1, cons(3, nil))", "", 0},
		{lists, "append/3'2", "cons(1, nil) | cons(2, nil) | cons(1, nil)", "", 0},
		{lists, "member/2'0", "cons(1, cons(2, cons(1, nil)))", "1 ; 2 ; 1", 0},
		{lists, "member/2'0", "nil", "", 0},
		{lists, "member/2'1", "1 | cons(1, cons(2, cons(1, nil)))", "true ; true", 0},
		{lists, "member/2'1", "3 | cons(1, cons(2, cons(1, nil)))", "", 0},
		{lists, "has/2'0", "1 | cons(1, cons(2, cons(1, nil)))", "true", 0},
		{lists, "has/2'0", "3 | cons(1, cons(2, cons(1, nil)))", "", 0},
		{lists, "reverse/2'0", append123, "cons(3, cons(2, cons(1, nil)))", 0},
		{lists, "take/3'0", append123, "1, cons(2, cons(3, nil)) ; 2, cons(1, cons(3, nil)) ; 3, cons(1, cons(2, nil))", 0},
		{lists, "take/3'1", "7 | cons(1, nil)", "cons(7, cons(1, nil)) ; cons(1, cons(7, nil))", 0},
		{lists, "perm/2'0", "cons(1, cons(2, nil))", "cons(1, cons(2, nil)) ; cons(2, cons(1, nil))", 0},
		{lists, "length/2'0", append123, "3", 0},
		{numbers, "half/2'0", "7", "3", 0},
		{numbers, "none/2'0", "7", "raise 1", 1},
		{numbers, "safe/2'0", "0", "1", 1},
		{numbers, "safe/2'0", "1", "1", 0},
		{numbers, "safe/2'0", "2", "0", 0},
		{numbers, "safe/2'1", "1 | 0", "", 0},
		{numbers, "safe/2'1", "1 | 1", "true", 0},
		{numbers, "safe/2'1", "0 | 1", "true", 1},
		{numbers, "safe/2'1", "0 | 2", "", 1},
		{numbers, "even/1'0", "z", "true", 0},
		{numbers, "even/1'0", "s(z)", "", 0},
		{numbers, "even/1'0", "s(s(s(s(z))))", "true", 0},
		{numbers, "number/2'0", "3", "s(s(s(z)))", 0},
		{numbers, "number/2'0", "-1", "", 0},
		{numbers, "from/3'0", "3 | 6", "3 ; 4 ; 5 ; 6", 0},
		{numbers, "from/3'0", "9223372036854775806 | 9223372036854775807", "9223372036854775806 ; 9223372036854775807", 0},
		{numbers, "root/2'0", "36", "6", 0},
		{numbers, "root/2'0", "35", "", 0},
		{numbers, "prime/1'0", "97", "true", 0},
		{numbers, "prime/1'0", "91", "", 0},
		{numbers, "primes/2'0", "20", "2 ; 3 ; 5 ; 7 ; 11 ; 13 ; 17 ; 19", 0},
		{numbers, "fact/2'0", "20", "2432902008176640000", 0},
		{numbers, "fact/2'0", "21", "raise 2", 1},
		{numbers, "first/2'0", "3", "yes(2) ; yes(3) ; no", 0},
		{numbers, "pick/2'0", "5", "1 ; 2 ; raise 3", 1},
		{numbers, "deep/2'0", "5", "8", 2},
		{numbers, "deep/2'0", "-9223372036854775808", "4", 2},
	} {
		p, what := compiled(t, r.source), r.call+" of "+r.in
		id, in := called(t, r.call), list(t, r.in)
		got, end, err := sem.Solve(p.x, p.procs, id, in, 100000, 1000)
		held(t, what, err, nil)
		held(t, what, told(got, end), r.want)
		_, raises, end, err := sem.Steps(p.x, p.procs, id, in, 100000)
		held(t, what, []any{raises, end, err}, []any{r.raises, sem.Ended, nil})
		_, w := agree(t, what, p, id, in, 100000)
		for fuel := 0; fuel < w.steps; fuel += 1 + w.steps/200 {
			agree(t, what, p, id, in, fuel)
		}
		for most := range len(got) + 1 {
			agreeFor(t, what, p, id, in, 100000, most)
		}
	}
}

func variable(name string) api.TypeExpr { return api.TypeExpr{Var: true, Name: name} }
func typ(name string, args ...api.TypeExpr) api.TypeExpr {
	return api.TypeExpr{Name: name, Args: args}
}

// P11.1: the types of inputs, as they are declared.
func TestInputs(t *testing.T) {
	x := read(t, lists+"type pair(A, B) = pair(A, B). pred mix(pair(A, int), B, list(A), int). mode mix(in, out, in, out) is det. pred mix. mode mix is det.")
	mix, a := key("mix", 4), variable("A")
	for _, r := range []struct {
		pred api.Key
		in   []bool
		want []api.TypeExpr
	}{
		{mix, []bool{true, false, true, false}, []api.TypeExpr{typ("pair", a, typ("int")), typ("list", a)}},
		{mix, []bool{false, true, false, true}, []api.TypeExpr{variable("B"), typ("int")}},
		{mix, []bool{false, false, false, false}, nil},
		{mix, []bool{true, true, true, true}, []api.TypeExpr{typ("pair", a, typ("int")), variable("B"), typ("list", a), typ("int")}},
		{key("mix", 0), nil, nil},
		{key("append", 3), []bool{false, false, true}, []api.TypeExpr{typ("list", variable("T"))}},
		{key("append", 3), []bool{true, true, false}, []api.TypeExpr{typ("list", variable("T")), typ("list", variable("T"))}},
		{key("add", 3), []bool{true, true, false}, []api.TypeExpr{typ("int"), typ("int")}},
	} {
		p := api.Proc{Id: api.ProcId{Pred: r.pred}, In: r.in}
		held(t, form(p), sem.Inputs(x, p), r.want)
	}
}
