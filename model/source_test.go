package model_test

import (
	"strings"
	"testing"
)

const lists = `type list(T) = nil | cons(T, list(T)). type t = a | b | f(t) | g(t, t).
pred append(list(T), list(T), list(T)). mode append(in, in, out) is det. mode append(in, out, in) is semidet. mode append(in, in, in) is semidet. mode append(out, out, in) is multi.
append(nil, Y, Y). append(cons(H, T), Y, cons(H, Z)) :- append(T, Y, Z).
pred member(T, list(T)). mode member(out, in) is nondet. mode member(in, in) is nondet.
member(X, cons(X, _)). member(X, cons(_, T)) :- member(X, T).
pred take(T, list(T), list(T)). mode take(out, in, out) is nondet. mode take(in, out, in) is nondet. mode take(in, in, in) is nondet. mode take(out, in, in) is nondet. mode take(in, in, out) is nondet.
take(X, cons(X, T), T). take(X, cons(H, T), cons(H, R)) :- take(X, T, R).
pred perm(list(T), list(T)). mode perm(in, out) is nondet. mode perm(in, in) is nondet.
perm(nil, nil). perm(L, cons(X, P)) :- take(X, L, R), perm(R, P).
pred length(list(T), int). mode length(in, out) is det. mode length(in, in) is semidet.
length(nil, 0). length(cons(_, T), N) :- length(T, M), add(M, 1, N).
pred lacks(T, list(T)). mode lacks(in, in) is semidet.
lacks(_, nil). lacks(X, cons(Y, T)) :- not X = Y, lacks(X, T).
pred has(T, list(T)). mode has(in, in) is semidet.
has(X, L) :- not lacks(X, L).
pred last(list(T), T). mode last(in, out) is nondet. mode last(in, in) is nondet.
last(L, X) :- append(_, cons(X, nil), L).
pred sub(list(T), list(T)). mode sub(in, in) is nondet. mode sub(out, in) is nondet.
sub(S, L) :- append(P, _, L), append(_, S, P).
pred twice(list(T), list(T)). mode twice(in, out) is det. mode twice(out, in) is nondet.
twice(X, Y) :- append(X, X, Y).
pred zip(list(A), list(B), list(both(A, B))). mode zip(in, in, out) is semidet. mode zip(out, out, in) is det.
zip(nil, nil, nil). zip(cons(X, L), cons(Y, M), cons(both(X, Y), Z)) :- zip(L, M, Z). type both(A, B) = both(A, B).
`

const facts = `type place = rome | oslo | bonn | kyiv | lima. type list(T) = nil | cons(T, list(T)). type colour = red | green | blue.
pred road(place, place). mode road(in, in) is semidet. mode road(in, out) is nondet. mode road(out, in) is nondet. mode road(out, out) is multi.
road(rome, bonn). road(bonn, oslo). road(rome, kyiv). road(kyiv, oslo). road(oslo, rome).
pred two(place, place). mode two(in, out) is nondet. mode two(out, in) is nondet. mode two(out, out) is nondet.
two(X, Z) :- road(X, Y), road(Y, Z).
pred lone(place). mode lone(in) is semidet. lone(X) :- not road(X, oslo), not road(oslo, X), not X = oslo.
pred way(place, place, int). mode way(in, out, in) is nondet. mode way(in, in, in) is nondet.
way(X, X, 0). way(X, Z, N) :- lt(0, N), sub(N, 1, M), road(X, Y), way(Y, Z, M), lt(0, N).
pred colour(colour). mode colour(out) is multi. mode colour(in) is nondet. colour(red). colour(green). colour(blue).
pred map(colour, colour, colour, colour). mode map(out, out, out, out) is nondet. mode map(in, in, out, out) is nondet. mode map(in, in, in, in) is nondet.
map(A, B, C, D) :- not A = B, not A = C, not B = C, not B = D, not C = D, colour(A), colour(B), colour(C), colour(D).
pred rest(place, place). mode rest(in, out) is nondet. rest(X, Y) :- road(_, Y), not road(X, Y), not X = Y.
`

// A search takes what stands last first, and a run what stands first, so where both are to end it says twice what ends them.
const reckoning = `type t = z | s(t).
pred half(int, int). mode half(in, out) is det. half(X, Y) :- div(X, 2, Y).
pred safe(int, int). mode safe(in, out) is det. mode safe(in, in) is semidet. safe(X, Y) :- try div(1, X, Y) catch E then Y = E.
pred plus(t, t, t). mode plus(in, in, out) is det. mode plus(in, out, in) is semidet. mode plus(out, out, in) is multi. plus(z, Y, Y). plus(s(X), Y, s(Z)) :- plus(X, Y, Z).
pred times(t, t, t). mode times(in, in, out) is det. times(z, _, z). times(s(X), Y, Z) :- times(X, Y, V), plus(V, Y, Z).
pred even(t). mode even(in) is semidet. even(z). even(s(s(X))) :- even(X).
pred from(int, int, int). mode from(in, in, out) is nondet. from(A, B, A) :- le(A, B). from(A, B, X) :- lt(A, B), add(A, 1, C), from(C, B, X), lt(A, B).
pred upto(int, int, int). mode upto(in, in, out) is nondet. upto(A, B, A) :- le(A, B). upto(A, B, X) :- lt(A, B), add(A, 1, C), upto(C, B, X).
pred root(int, int). mode root(in, out) is nondet. root(N, X) :- mul(X, X, N), from(0, N, X).
pred prime(int). mode prime(in) is semidet. prime(N) :- not divided(2, N), lt(1, N).
pred divided(int, int). mode divided(in, in) is semidet. divided(D, N) :- lt(D, N), not (not mod(N, D, 0), not (add(D, 1, E), divided(E, N))).
pred primes(int, int). mode primes(in, out) is nondet. primes(N, P) :- prime(P), from(1, N, P).
pred fact(int, int). mode fact(in, out) is nondet. fact(0, 1). fact(N, F) :- mul(N, G, F), fact(M, G), sub(N, 1, M), lt(0, N).
pred pick(int, int). mode pick(in, out) is nondet. pick(N, X) :- from(1, N, X), (X = 2 ; X = 3, throw X, X = 3 ; lt(X, 2)).
pred forever(int). mode forever(in) is nondet. forever(X) :- forever(X).
`

func ordinary() []struct{ source, call, in, want string } {
	return []struct{ source, call, in, want string }{
		{lists, "append/3'0", "cons(1, nil) | cons(2, nil)", "cons(1, nil), cons(2, nil), cons(1, cons(2, nil))"},
		{lists, "append/3'0", "nil | nil", "nil, nil, nil"},
		{lists, "append/3'3", "cons(1, nil)", "cons(1, nil), nil, cons(1, nil) ; nil, cons(1, nil), cons(1, nil)"},
		{lists, "append/3'3", "nil", "nil, nil, nil"},
		{lists, "append/3'2", "cons(1, nil) | nil | cons(1, nil)", "cons(1, nil), nil, cons(1, nil)"},
		{lists, "append/3'2", "cons(1, nil) | nil | cons(2, nil)", ""},
		{lists, "append/3'1", "cons(1, nil) | cons(1, cons(2, nil))", "cons(1, nil), cons(2, nil), cons(1, cons(2, nil))"},
		{lists, "append/3'1", "cons(2, nil) | cons(1, cons(2, nil))", ""},
		{lists, "member/2'0", "cons(b, cons(a, cons(b, nil)))", "a, L ; b, L"},
		{lists, "member/2'0", "nil", ""},
		{lists, "member/2'1", "2 | cons(1, cons(2, cons(2, nil)))", "2, L"},
		{lists, "member/2'1", "3 | cons(1, cons(2, cons(2, nil)))", ""},
		{lists, "take/3'0", "cons(2, cons(1, nil))", "1, cons(2, cons(1, nil)), cons(2, nil) ; 2, cons(2, cons(1, nil)), cons(1, nil)"},
		{lists, "take/3'0", "cons(1, cons(1, nil))", "1, cons(1, cons(1, nil)), cons(1, nil)"},
		{lists, "take/3'1", "2 | cons(1, nil)", "2, cons(1, cons(2, nil)), cons(1, nil) ; 2, cons(2, cons(1, nil)), cons(1, nil)"},
		{lists, "take/3'2", "2 | cons(1, cons(2, nil)) | cons(1, nil)", "2, cons(1, cons(2, nil)), cons(1, nil)"},
		{lists, "take/3'3", "cons(1, cons(2, nil)) | cons(1, nil)", "2, cons(1, cons(2, nil)), cons(1, nil)"},
		{lists, "take/3'4", "2 | cons(1, cons(2, nil))", "2, cons(1, cons(2, nil)), cons(1, nil)"},
		{lists, "perm/2'0", "cons(2, cons(1, nil))", "cons(2, cons(1, nil)), cons(1, cons(2, nil)) ; cons(2, cons(1, nil)), cons(2, cons(1, nil))"},
		{lists, "perm/2'1", "cons(1, cons(2, cons(3, nil))) | cons(3, cons(1, cons(2, nil)))", "cons(1, cons(2, cons(3, nil))), cons(3, cons(1, cons(2, nil)))"},
		{lists, "length/2'0", "cons(a, cons(a, cons(b, nil)))", "cons(a, cons(a, cons(b, nil))), 3"},
		{lists, "length/2'1", "cons(a, nil) | 1", "cons(a, nil), 1"},
		{lists, "length/2'1", "cons(a, nil) | 2", ""},
		{lists, "has/2'0", "2 | cons(1, cons(2, nil))", "2, cons(1, cons(2, nil))"},
		{lists, "has/2'0", "3 | cons(1, cons(2, nil))", ""},
		{lists, "lacks/2'0", "3 | cons(1, cons(2, nil))", "3, cons(1, cons(2, nil))"},
		{lists, "last/2'0", "cons(1, cons(2, nil))", "cons(1, cons(2, nil)), 2"},
		{lists, "last/2'1", "cons(1, cons(2, nil)) | 1", ""},
		{lists, "sub/2'1", "cons(1, cons(1, nil))", "cons(1, cons(1, nil)), cons(1, cons(1, nil)) ; cons(1, nil), cons(1, cons(1, nil)) ; nil, cons(1, cons(1, nil))"},
		{lists, "sub/2'0", "cons(2, nil) | cons(1, cons(2, cons(3, nil)))", "cons(2, nil), cons(1, cons(2, cons(3, nil)))"},
		{lists, "twice/2'0", "cons(a, nil)", "cons(a, nil), cons(a, cons(a, nil))"},
		{lists, "twice/2'1", "cons(a, cons(a, nil))", "cons(a, nil), cons(a, cons(a, nil))"},
		{lists, "twice/2'1", "cons(a, cons(b, nil))", ""},
		{lists, "zip/3'0", "cons(1, nil) | cons(a, nil)", "cons(1, nil), cons(a, nil), cons(both(1, a), nil)"},
		{lists, "zip/3'0", "cons(1, nil) | nil", ""},
		{lists, "zip/3'1", "cons(both(1, a), nil)", "cons(1, nil), cons(a, nil), cons(both(1, a), nil)"},
		{facts, "road/2'1", "rome", "rome, bonn ; rome, kyiv"},
		{facts, "road/2'2", "oslo", "bonn, oslo ; kyiv, oslo"},
		{facts, "road/2'3", "", "bonn, oslo ; kyiv, oslo ; oslo, rome ; rome, bonn ; rome, kyiv"},
		{facts, "road/2'0", "rome | oslo", ""},
		{facts, "road/2'0", "oslo | rome", "oslo, rome"},
		{facts, "two/2'0", "rome", "rome, oslo"},
		{facts, "two/2'1", "rome", "bonn, rome ; kyiv, rome"},
		{facts, "two/2'2", "", "bonn, rome ; kyiv, rome ; oslo, bonn ; oslo, kyiv ; rome, oslo"},
		{facts, "way/3'0", "rome | 3", "rome, rome, 3"},
		{facts, "way/3'0", "rome | 4", "rome, bonn, 4 ; rome, kyiv, 4"},
		{facts, "way/3'1", "rome | rome | 4", ""},
		{facts, "rest/2'0", "rome", "rome, oslo"},
		{facts, "lone/1'0", "lima", "lima"},
		{facts, "lone/1'0", "rome", ""},
		{facts, "map/4'1", "red | blue", "red, blue, green, red"},
		{facts, "map/4'1", "red | red", ""},
		{facts, "map/4'2", "red | blue | green | red", "red, blue, green, red"},
		{facts, "map/4'2", "red | blue | green | blue", ""},
		{facts, "map/4'0", "", "blue, green, red, blue ; blue, red, green, blue ; green, blue, red, green ; green, red, blue, green ; red, blue, green, red ; red, green, blue, red"},
		{reckoning, "half/2'0", "-7", "-7, -3"},
		{reckoning, "safe/2'0", "1", "1, 1"},
		{reckoning, "safe/2'0", "2", "2, 0"},
		{reckoning, "safe/2'0", "0", "raised"},
		{reckoning, "safe/2'1", "2 | 1", ""},
		{reckoning, "plus/3'2", "s(s(z))", "s(s(z)), z, s(s(z)) ; s(z), s(z), s(s(z)) ; z, s(s(z)), s(s(z))"},
		{reckoning, "plus/3'1", "s(z) | s(s(s(z)))", "s(z), s(s(z)), s(s(s(z)))"},
		{reckoning, "plus/3'1", "s(z) | z", ""},
		{reckoning, "times/3'0", "s(s(z)) | s(s(s(z)))", "s(s(z)), s(s(s(z))), s(s(s(s(s(s(z))))))"},
		{reckoning, "even/1'0", "s(s(z))", "s(s(z))"},
		{reckoning, "even/1'0", "s(z)", ""},
		{reckoning, "from/3'0", "3 | 6", "3, 6, 3 ; 3, 6, 4 ; 3, 6, 5 ; 3, 6, 6"},
		{reckoning, "from/3'0", "-2 | 1", "-2, 1, -2 ; -2, 1, -1 ; -2, 1, 0 ; -2, 1, 1"},
		{reckoning, "upto/3'0", "3 | 6", "fuel"},
		{reckoning, "root/2'0", "49", "49, 7"},
		{reckoning, "root/2'0", "50", ""},
		{reckoning, "prime/1'0", "97", "97"},
		{reckoning, "prime/1'0", "91", ""},
		{reckoning, "primes/2'0", "12", "12, 2 ; 12, 3 ; 12, 5 ; 12, 7 ; 12, 11"},
		{reckoning, "fact/2'0", "0", "0, 1"},
		{reckoning, "fact/2'0", "5", "5, 120"},
		{reckoning, "fact/2'0", "20", "20, 2432902008176640000"},
		{reckoning, "fact/2'0", "21", "raised"},
		{reckoning, "pick/2'0", "2", "2, 1 ; 2, 2"},
		{reckoning, "pick/2'0", "5", "raised"},
		{reckoning, "forever/1'0", "5", "fuel"},
	}
}

// P12.1: sources of all sorts, also with little fuel; P12.2 and P12.3 for them.
func TestSources(t *testing.T) {
	counts := tally{}
	for _, r := range ordinary() {
		s := compiled(t, r.source)
		id, in := called(t, r.call), list(t, r.in)
		want := strings.ReplaceAll(r.want, "L", shown(in[len(in)-min(1, len(in)):]))
		what := r.call + " of " + r.in
		held(t, what, s.solve(t, id, in, 100000), want)
		_, w := agree(t, s, id, in, 100000)
		for fuel := 0; fuel < w.steps; fuel += 1 + w.steps/50 {
			agree(t, s, id, in, fuel)
		}
		counts.ordered(t, s, id, in, 100000)
		counts.modes(t, s, id, in, 100000)
	}
	counts.most(t, 20, "same", "in another mode")
}
