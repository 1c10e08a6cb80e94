/- An index as the laws see it: where each ID is, and how many there are. -/
import Derived.Test.YtnilgnnlobiojaaAround
import Derived.Test.YtnilgnnlobiojaaAwake
namespace Go.Proofs.Ytnilgnnlobiojaa
open Go.RowKit
/-- The index in block b (rows fa) holds the places F, n of them. -/
def St (w : World) (b base : Nat) (fa : Cl → Option Value) (F : Int → Option Cl) (n : Nat) : Prop := ∃ A, Jx w b base fa A F n ∧ Ok A F n ∧ n ≤ 4096
theorem St.below {w w' : World} {b base n : Nat} {fa : Cl → Option Value} {F : Int → Option Cl} (h : St w b base fa F n) (hb : Below w.heap.size w w') : St w' b base fa F n := by
  obtain ⟨A, h1, h2, h3⟩ := h
  exact ⟨A, h1.below hb, h2, h3⟩
theorem St.new (w : World) : St (w.alloc (.cells #[.map none, .map none] 55)) w.heap.size w.heap.size (fun _ => none) (fun _ => none) 0 :=
  ⟨fun _ => [], Or.inl ⟨⟨Blk.new _ _ _, Nat.le_refl _, fun _ => rfl, fun _ => rfl, rfl⟩, rfl⟩, Ok.empty, by omega⟩
def putF' (F : Int → Option Cl) (n : Nat) (i : Int) (c : Cl) : Int → Option Cl := if putE F n i c = 0 then insF F i c else F
def putN (F : Int → Option Cl) (n : Nat) (i : Int) (c : Cl) : Nat := if putE F n i c = 0 then offN F i n + 1 else n
theorem St.put {w : World} {b base n : Nat} {fa : Cl → Option Value} {F : Int → Option Cl} (h : St w b base fa F n) (hb : base ≤ w.heap.size) (i x y : Int) :
    Calls Try.prog 12 #[.pointer (some ⟨b, 0, none⟩), .int .i64 i, C x y] w fun e w' => e = .returned (.int .i64 (putE F n i (x, y))) ∧ Below base w w' ∧ Kept2 fa w w' ∧ ∃ fa', St w' b base fa' (putF' F n i (x, y)) (putN F n i (x, y)) ∧ Own2 w fa fa' := by
  obtain ⟨A, h1, h2, h3⟩ := h
  refine Calls.mono (put2_any b base n fa A F i x y w h1 h2 h3 hb) ?_
  rintro e w' ⟨he, h4, h5, h6, h7⟩
  refine ⟨he, h4, h5, ?_⟩
  unfold putF' putN
  by_cases hE : putE F n i (x, y) = 0
  · rw [if_pos hE, if_pos hE]
    obtain ⟨fa', h8, h9⟩ := h6 hE
    have hok := (h2.off i).ins (remF_self F i) (x, y)
    rw [insF_rem] at hok
    refine ⟨fa', ⟨_, h8, hok, ?_⟩, h9⟩
    unfold offN
    cases hF : F i with
    | some d => have := h2.pos hF; simp only; omega
    | none =>
      simp only
      unfold putE at hE
      split at hE
      · rw [hF] at hE
        by_cases hn : n = 4096
        · rw [hn] at hE; simp at hE
        · omega
      · omega
  · rw [if_neg hE, if_neg hE]
    exact ⟨fa, ⟨A, h7 hE, h2, h3⟩, Own2.refl _ _⟩
theorem putN_le (F : Int → Option Cl) (n : Nat) (i : Int) (c : Cl) : putN F n i c ≤ n + 1 := by
  unfold putN offN
  split
  · cases F i <;> simp only <;> omega
  · omega
theorem St.take {w : World} {b base n : Nat} {fa : Cl → Option Value} {F : Int → Option Cl} (h : St w b base fa F n) (hb : base ≤ w.heap.size) (i : Int) :
    Calls Try.prog 18 #[.pointer (some ⟨b, 0, none⟩), .int .i64 i] w fun e w' => e = .returned (.int .i64 (takeE F i)) ∧ Below base w w' ∧ Kept2 fa w w' ∧ ∃ fa', St w' b base fa' (remF F i) (offN F i n) ∧ Own2 w fa fa' := by
  obtain ⟨A, h1, h2, h3⟩ := h
  refine Calls.mono (take2_any b base n fa A F i w h1 h2 h3 hb) ?_
  rintro e w' ⟨he, h4, h5, fa', h6, h7⟩
  refine ⟨he, h4, h5, fa', ⟨_, h6, h2.off i, ?_⟩, h7⟩
  unfold offN
  cases F i <;> simp only <;> omega
theorem St.where {w : World} {b base n : Nat} {fa : Cl → Option Value} {F : Int → Option Cl} (h : St w b base fa F n) (i : Int) : Calls Try.prog 14 #[.pointer (some ⟨b, 0, none⟩), .int .i64 i] w fun e w' => Out w (whV F i) e w' := by
  obtain ⟨A, h1, h2, h3⟩ := h
  exact where_any b base n A F i w h1.ix
theorem St.len {w : World} {b base n : Nat} {fa : Cl → Option Value} {F : Int → Option Cl} (h : St w b base fa F n) : Calls Try.prog 11 #[.pointer (some ⟨b, 0, none⟩)] w fun e w' => e = .returned (.int .i64 n) ∧ w' = w := by
  obtain ⟨A, h1, h2, h3⟩ := h
  exact len_any b base n A F w h1.ix
theorem St.around {w : World} {b base n : Nat} {fa : Cl → Option Value} {F : Int → Option Cl} (h : St w b base fa F n) (x y r : Int) : Calls Try.prog 15 #[.pointer (some ⟨b, 0, none⟩), C x y, .int .i64 r] w fun e w' => ∃ s, Ring F x y r s ∧ s.length ≤ n ∧ OutI w (s.map Prod.fst) e w' := by
  obtain ⟨A, h1, h2, h3⟩ := h
  exact around_any b base n A F x y r w h1.ix h2 h3
/-- Who is at a cell, rising. -/
def At (F : Int → Option Cl) (c : Cl) (l : List Int) : Prop := l.Pairwise (· < ·) ∧ ∀ i, i ∈ l ↔ F i = some c
theorem At.ext {F : Int → Option Cl} {c : Cl} {l k : List Int} (h : At F c l) (h' : At F c k) : l = k := inc_ext h.1 h'.1 fun i => by rw [h.2, h'.2]
theorem St.who {w : World} {b base n : Nat} {fa : Cl → Option Value} {F : Int → Option Cl} (h : St w b base fa F n) (x y : Int) : Calls Try.prog 13 #[.pointer (some ⟨b, 0, none⟩), C x y] w fun e w' => ∃ l, At F (x, y) l ∧ l.length ≤ n ∧ OutI w l e w' := by
  obtain ⟨A, h1, h2, h3⟩ := h
  have hl := h2.len (x, y)
  refine Calls.mono (who_any b base n A F x y w h1.ix (by omega)) ?_
  intro e w' h
  exact ⟨A (x, y), ⟨h2.inc _, h2.mem _⟩, hl, h⟩
/-- The row v isn't one of the index's own. -/
def Away (fa : Cl → Option Value) (v : Value) : Prop := ∀ c u, fa c = some u → ∀ k, u.ownBlock = some k → v.ownBlock ≠ some k
theorem Away.new {w : World} {b base n B : Nat} {fa : Cl → Option Value} {F : Int → Option Cl} {W : World} {v : Value} {xs : List Int} (h : St w b base fa F n) (hv : OwnI W B v xs) (hB : w.heap.size ≤ B) : Away fa v := fun c u hu k hk e => by
  obtain ⟨A, h1, _⟩ := h
  obtain ⟨ys, ho⟩ := h1.rows c u hu
  have := (ho.block k hk).2
  have := (hv.block k e).1
  omega
theorem Away.step {w : World} {B : Nat} {fa fb : Cl → Option Value} {v : Value} {xs : List Int} (h : Away fa v) (ho : Own2 w fa fb) (hv : OwnI w B v xs) : Away fb v := fun c u hu k hk e => by
  rcases ho c u k hu hk with ⟨d, t, h1, h2⟩ | h1
  · exact h d t h1 k h2 e
  · have := (hv.block k e).2; omega
theorem OwnI.kept2 {w w' : World} {B : Nat} {fa : Cl → Option Value} {v : Value} {xs : List Int} (h : OwnI w B v xs) (hk : Kept2 fa w w') (ha : Away fa v) : OwnI w' B v xs := h.stay fun k hkv => by
  obtain ⟨_, ⟨rfl, _⟩ | ⟨g, cap, cur, rfl, hg, hh, _⟩⟩ := h
  · simp [Value.ownBlock] at hkv
  · have hkv' := hkv
    simp [Value.ownBlock] at hkv
    subst hkv
    exact hk _ _ _ _ hh (by decide) fun c u hu e => ha c u hu _ e hkv'
end Go.Proofs.Ytnilgnnlobiojaa
