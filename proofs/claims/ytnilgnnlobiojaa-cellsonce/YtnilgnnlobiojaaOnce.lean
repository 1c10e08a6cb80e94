/- IDs on eight cells by eight, counted cell by cell (pure). -/
import Derived.Test.YtnilgnnlobiojaaSt
namespace Go.Proofs.Ytnilgnnlobiojaa
open Go.RowKit
def InSq (F : Int → Option Cl) : Prop := ∀ j c, F j = some c → 0 ≤ c.1 ∧ c.1 ≤ 7 ∧ 0 ≤ c.2 ∧ c.2 ≤ 7
theorem InSq.ins {F : Int → Option Cl} (h : InSq F) (i : Int) {a b : Int} (ha : 0 ≤ a ∧ a ≤ 7) (hb : 0 ≤ b ∧ b ≤ 7) : InSq (insF F i (a, b)) := fun j c hj => by
  unfold insF at hj
  by_cases hji : j = i
  · rw [if_pos hji] at hj
    cases hj
    exact ⟨ha.1, ha.2, hb.1, hb.2⟩
  · rw [if_neg hji] at hj
    exact h j c hj
/-- L holds the IDs of the first i cells. -/
def Cnt (F : Int → Option Cl) (i : Nat) (L : List Int) : Prop := L.Nodup ∧ ∀ j, j ∈ L ↔ ∃ c, F j = some c ∧ c.1 + 8 * c.2 < i
theorem Cnt.zero {F : Int → Option Cl} (h : InSq F) : Cnt F 0 [] := ⟨List.nodup_nil, fun j => ⟨fun hj => absurd hj List.not_mem_nil, fun ⟨c, h1, h2⟩ => by have := h j c h1; omega⟩⟩
theorem Cnt.step {F : Int → Option Cl} (h : InSq F) {i : Nat} {L l : List Int} (hL : Cnt F i L) {X Y : Int} (hX : X = (i : Int) % 8) (hY : Y = (i : Int) / 8) (hl : At F (X, Y) l) : Cnt F (i + 1) (L ++ l) := by
  refine ⟨?_, fun j => ?_⟩
  · rw [List.nodup_append]
    refine ⟨hL.1, inc_nodup hl.1, fun a ha b hb => ?_⟩
    rintro rfl
    obtain ⟨c, h1, h2⟩ := (hL.2 a).1 ha
    rw [(hl.2 a).1 hb] at h1
    cases h1
    simp only at h2
    omega
  · rw [List.mem_append, hL.2, hl.2]
    constructor
    · rintro (⟨c, h1, h2⟩ | h1)
      · exact ⟨c, h1, by omega⟩
      · exact ⟨_, h1, by simp only; omega⟩
    · rintro ⟨c, h1, h2⟩
      have hc := h j c h1
      by_cases h3 : c.1 + 8 * c.2 < i
      · exact Or.inl ⟨c, h1, h3⟩
      · refine Or.inr ?_
        rw [h1]
        congr 1
        exact Prod.ext (by simp only; omega) (by simp only; omega)
theorem len_of {A : Cl → List Int} {F : Int → Option Cl} {n : Nat} (hok : Ok A F n) {L : List Int} (hL : L.Nodup) (hs : ∀ j ∈ L, (F j).isSome = true) : L.length ≤ n := by
  obtain ⟨m, rfl, hm, hf⟩ := hok.fin
  exact nodup_le _ _ hL fun i hi => (hf i).2 (hs i hi)
theorem len_all {A : Cl → List Int} {F : Int → Option Cl} {n : Nat} (hok : Ok A F n) {L : List Int} (hL : L.Nodup) (hs : ∀ j, j ∈ L ↔ (F j).isSome = true) : L.length = n := by
  have h1 := len_of hok hL fun j hj => (hs j).1 hj
  obtain ⟨m, rfl, hm, hf⟩ := hok.fin
  have h2 := nodup_le m L hm fun i hi => (hs i).2 ((hf i).1 hi)
  omega
theorem St.cnt {w : World} {b base n : Nat} {fa : Cl → Option Value} {F : Int → Option Cl} (h : St w b base fa F n) {i : Nat} {L : List Int} (hL : Cnt F i L) : L.length ≤ n := by
  obtain ⟨A, _, hok, _⟩ := h
  exact len_of hok hL.1 fun j hj => by
    obtain ⟨c, h1, _⟩ := (hL.2 j).1 hj
    rw [h1]; rfl
theorem St.cntAll {w : World} {b base n : Nat} {fa : Cl → Option Value} {F : Int → Option Cl} (h : St w b base fa F n) (hq : InSq F) {L : List Int} (hL : Cnt F 64 L) : L.length = n := by
  obtain ⟨A, _, hok, _⟩ := h
  refine len_all hok hL.1 fun j => ?_
  rw [hL.2]
  constructor
  · rintro ⟨c, h1, _⟩
    rw [h1]; rfl
  · intro hs
    obtain ⟨c, hc⟩ := Option.isSome_iff_exists.1 hs
    have := hq j c hc
    exact ⟨c, hc, by omega⟩
theorem St.ringAll {w : World} {b base n : Nat} {fa : Cl → Option Value} {F : Int → Option Cl} (h : St w b base fa F n) (hq : InSq F) {s : List Fd} (hs : Ring F 0 0 14 s) : s.length = n := by
  obtain ⟨A, _, hok, _⟩ := h
  have h1 : (s.map Prod.fst).Nodup := by
    refine List.pairwise_map.2 (hs.2.1.imp_of_mem fun {p q} hp hq hne e => hne ?_)
    obtain ⟨c, h1, h3, _⟩ := (hs.2.2 p).1 hp
    obtain ⟨d, k1, k3, _⟩ := (hs.2.2 q).1 hq
    rw [e, k1] at h1
    cases h1
    exact Prod.ext e (by rw [h3, k3])
  have h2 := len_all hok h1 fun j => by
    rw [List.mem_map]
    constructor
    · rintro ⟨p, hp, rfl⟩
      obtain ⟨c, h1, _⟩ := (hs.2.2 p).1 hp
      rw [h1]; rfl
    · intro hj
      obtain ⟨c, hc⟩ := Option.isSome_iff_exists.1 hj
      have hb := hq j c hc
      refine ⟨(j, dist 0 0 c.1 c.2), (hs.2.2 _).2 ⟨c, hc, rfl, ?_⟩, rfl⟩
      simp only
      unfold dist meas apt
      have e1 : (decide (-1000 ≤ (0 : Int)) && decide ((0 : Int) ≤ 1000) && decide (-1000 ≤ (0 : Int)) && decide ((0 : Int) ≤ 1000) && (decide (-1000 ≤ c.1) && decide (c.1 ≤ 1000) && decide (-1000 ≤ c.2) && decide (c.2 ≤ 1000))) = true := by simp; omega
      rw [if_pos e1]
      omega
  rw [← h2, List.length_map]
/-- A put that can't fail. -/
theorem putE_sq {F : Int → Option Cl} {n : Nat} (hn : n < 4096) (i : Int) {a b : Int} (ha : 0 ≤ a ∧ a ≤ 7) (hb : 0 ≤ b ∧ b ≤ 7) : putE F n i (a, b) = 0 := by
  unfold putE
  have hm : measC (a, b) = true := by unfold measC; simp; omega
  rw [if_pos hm, if_neg]
  simp; omega
end Go.Proofs.Ytnilgnnlobiojaa
