/- A player's turns: what Train, Work, Pop and Earn answer. -/
import Derived.Test.YtjkcmedmojidgaaStat
import Derived.Test.YtjkcmedmojidgaaSame
namespace Go.Proofs.Ytjkcmedmojidgaa
open Go.RowKit
/-- A player. -/
structure Pl where
  o : Int
  b : Bool
  q : List Int
  l : Int
def trE (p : Pl) (k : Int) : Int := if p.b = false then 7 else if isTr k = false then 3 else if 3 ≤ p.q.length then 6 else if p.o < cost k then 2 else 0
def tr (p : Pl) (k : Int) : Pl := if trE p k = 0 then ⟨p.o - cost k, p.b, p.q ++ [k], if p.q.length = 0 then turns k else p.l⟩ else p
def wk (p : Pl) : Pl := if p.b = false ∨ p.q.length = 0 then p else if 0 < p.l then ⟨p.o, p.b, p.q, p.l - 1⟩ else p
def wkV (p : Pl) : Int := if p.b = false ∨ p.q.length = 0 then 0 else if 0 < (wk p).l then 0 else p.q.getD 0 0
def ppE (p : Pl) : Int := if p.q.length = 0 ∨ 0 < p.l then 7 else 0
def pp (p : Pl) : Pl := if ppE p = 0 then ⟨p.o, p.b, p.q.drop 1, turns (p.q.getD 1 0)⟩ else p
def earn (p : Pl) (k : Int) : Pl := if p.o < 100000 then ⟨mn2 (p.o + mn2 (mx2 k 0) 100000) 100000, p.b, p.q, p.l⟩ else p
/-- A player and a number are answered. -/
def OutP (w : World) (p : Pl) (x : Int) (e : Ending) (w' : World) : Prop := ∃ s n cap, n = p.q.length ∧ e = .returned (.tuple #[.agg #[.int .i64 p.o, .bool p.b, .slice s n cap, .int .i64 p.l], .int .i64 x]) ∧ Rw w' w.heap.size (.slice s n cap) p.q ∧ Below w.heap.size w w'
/-- A player is answered. -/
def OutQ (w : World) (p : Pl) (e : Ending) (w' : World) : Prop := ∃ s n cap, n = p.q.length ∧ e = .returned (.agg #[.int .i64 p.o, .bool p.b, .slice s n cap, .int .i64 p.l]) ∧ Rw w' w.heap.size (.slice s n cap) p.q ∧ Below w.heap.size w w'
end Go.Proofs.Ytjkcmedmojidgaa
