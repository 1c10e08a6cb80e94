/- Closest 19, and the reference's 25. -/
import Derived.Test.YtnilgnnlobiojaaRaround
namespace Go.Proofs.Ytnilgnnlobiojaa
open Go.RowKit
/-- The closest that isn't but, and whether there is one. -/
def OutCl (F : Int → Option Cl) (x y r but : Int) (w : World) (e : Ending) (w' : World) : Prop :=
  Below w.heap.size w w' ∧ ∃ z th, e = .returned (.tuple #[.int .i64 z, .bool th]) ∧ (((∀ q, Near F x y r q → q.1 = but) ∧ z = 0 ∧ th = false) ∨ ∃ q, Near F x y r q ∧ q.1 ≠ but ∧ (∀ t, Near F x y r t → t.1 ≠ but → ltF t q = false) ∧ z = q.1 ∧ th = true)
theorem ltF_irr (q : Fd) : ltF q q = false := by rw [ltF_not]; omega
set_option maxRecDepth 20000 in
set_option maxHeartbeats 8000000 in
theorem rclosest_any (b base : Nat) (R : List Pr) (F : Int → Option Cl) (x y r but : Int) (w : World) (h : Rx w b base R) (hr : Rep F R) (hn : R.length ≤ 2000) (hst : ∃ A n, Ok A F n ∧ n ≤ 2000) :
    Calls Try.prog 25 #[.pointer (some ⟨b, 0, none⟩), C x y, .int .i64 r, .int .i64 but] w fun e w' => OutCl F x y r but w e w' := by
  obtain ⟨g, hg⟩ : ∃ g, g = w.heap.size := ⟨_, rfl⟩
  obtain ⟨W, hW⟩ : ∃ W, W = w.alloc (.cells #[.int .i64 x, .int .i64 y] 32) := ⟨_, rfl⟩
  have hB : Below w.heap.size w W := by rw [hW]; exact (Below.refl _ _).alloc (Nat.le_refl _) _
  have hG : Blk W g [.int .i64 x, .int .i64 y] 32 := by rw [hW]; exact Blk.new' _ _ _ _ hg
  have har := raround_any b base R F x y r W (h.below hB) hr hn hst
  have c0 : W.cell? ⟨g, 0, none⟩ = some (.int .i64 x) := hG.cell 0
  have c1 : W.cell? ⟨g, 1, none⟩ = some (.int .i64 y) := hG.cell 1
  have HB := hid hB
  unfold C at *
  have HAR := hid har
  obtain ⟨Q, hQ⟩ : ∃ Q, Q = OutCl F x y r but w := ⟨_, rfl⟩
  have HQ := hid (fun (_ : Nat) => hQ)
  rw [← hQ]
  clear hQ hB hG h hn hr hst har
  go_enter Try.func25, Try.ntmps25
  go_upto_region 1 with fail
  rw [← hW, ← hg]
  clear hW hg
  go_upto_region 2 with fail
  refine Calls.mono HAR.out ?_
  rintro _ W1 ⟨s, hring, hsl, p, cap, rfl, ho, hb1⟩
  obtain ⟨m, hm⟩ : ∃ m, m = (s.map Prod.fst).length := ⟨_, rfl⟩
  rw [← hm] at ho
  rw [← hm]
  rw [List.length_map] at hm
  have HM := hid (fun (_ : Nat) => hm)
  have hm6 : (m : Int) ≤ 2000 := by omega
  have HRG := hid hring
  have HI := hid ho.ints
  have HB1 := hid (HB.out.trans (hb1.mono HB.out.size))
  clear hring hsl hm ho hb1 HAR c0 c1
  go_upto_region 3 with fail
  go_wp2_with fail
  go_loopw [11] (fun iv wr => ∃ k : Nat, iv = .int .i64 (k : Int) ∧ k ≤ m ∧ Hid (∀ j (hj : j < s.length), j < k → s[j].1 = but) ∧ wr = W1) (fun iv _ => m - (intOf iv).toNat)
  case atStart => exact ⟨0, rfl, Nat.zero_le _, fun j _ hj => absurd hj (Nat.not_lt_zero _), rfl⟩
  case round =>
    obtain ⟨k, rfl, hk, HK, hw⟩ := hrel
    subst hw
    by_cases hlt : k < m
    · have hl' : (k : Int) < (m : Int) := by omega
      have hks : k < s.length := by have := HM.out 0; omega
      obtain ⟨sb, so, hps, hcell⟩ := HI.out.pos k hlt
      obtain ⟨z, hz⟩ : ∃ z, z = s[k].1 := ⟨_, rfl⟩
      have e0 : wr.cell? ⟨sb, so + k, none⟩ = some (.int .i64 z) := by
        rw [hcell k hlt, hz]
        simp [List.getD, List.getElem?_eq_getElem hks]
      have HZ := hid (fun (_ : Nat) => hz)
      subst hps
      clear hcell hz
      by_cases hzi : z = but
      · have hq : (z != but) = false := by simp [hzi]
        go_wp2
        go_roundw
        case rel =>
          refine ⟨k + 1, by simp, by omega, fun j hj hjk => ?_, trivial⟩
          by_cases hjk2 : j = k
          · subst hjk2; rw [← HZ.out 0]; exact hzi
          · exact HK.out j hj (by omega)
        case measure => simp [intOf]; omega
      · have hq : (z != but) = true := by simpa using hzi
        go_wp2
        rw [HQ.out 0]
        refine ⟨HB1.out, z, true, rfl, Or.inr ⟨s[k], (HRG.out.2.2 _).1 (List.getElem_mem hks), by rw [← HZ.out 0]; exact hzi, fun t ht hne => ?_, HZ.out 0, rfl⟩⟩
        obtain ⟨j, hj, rfl⟩ := List.getElem_of_mem ((HRG.out.2.2 t).2 ht)
        rcases Nat.lt_trichotomy j k with h1 | h1 | h1
        · exact absurd (HK.out j hj h1) hne
        · subst h1; exact ltF_irr _
        · exact List.pairwise_iff_getElem.1 HRG.out.1 k j hks hj h1
    · obtain rfl : k = m := by omega
      have hl' : ((k : Int) < (k : Int)) = False := by simp
      go_wp2
      rw [HQ.out 0]
      refine ⟨HB1.out, 0, false, rfl, Or.inl ⟨fun q hq => ?_, rfl, rfl⟩⟩
      obtain ⟨j, hj, rfl⟩ := List.getElem_of_mem ((HRG.out.2.2 q).2 hq)
      exact HK.out j hj (by have := HM.out 0; omega)
/-- The best of a list so far. -/
def Best (pre : List Fd) (but : Int) (th : Bool) (q : Fd) : Prop := (th = false ∧ q = (0, 0) ∧ ∀ t ∈ pre, t.1 = but) ∨ (th = true ∧ q ∈ pre ∧ q.1 ≠ but ∧ ∀ t ∈ pre, t.1 ≠ but → ltF t q = false)
theorem Best.skip {pre : List Fd} {but : Int} {th : Bool} {q f : Fd} (h : Best pre but th q) (hf : f.1 = but) : Best (pre ++ [f]) but th q := by
  rcases h with ⟨h1, h2, h3⟩ | ⟨h1, h2, h3, h4⟩
  · refine Or.inl ⟨h1, h2, fun t ht => ?_⟩
    rcases List.mem_append.1 ht with ht | ht
    · exact h3 t ht
    · rw [List.mem_singleton] at ht; subst ht; exact hf
  · refine Or.inr ⟨h1, List.mem_append_left _ h2, h3, fun t ht hne => ?_⟩
    rcases List.mem_append.1 ht with ht | ht
    · exact h4 t ht hne
    · rw [List.mem_singleton] at ht; subst ht; exact absurd hf hne
theorem Best.take {pre : List Fd} {but : Int} {th : Bool} {q f : Fd} (h : Best pre but th q) (hf : f.1 ≠ but) (hb : th = false ∨ ltF f q = true) : Best (pre ++ [f]) but true f := by
  refine Or.inr ⟨rfl, by simp, hf, fun t ht hne => ?_⟩
  rcases List.mem_append.1 ht with ht | ht
  · rcases h with ⟨h1, _, h3⟩ | ⟨h1, h2, h3, h4⟩
    · exact absurd (h3 t ht) hne
    · rcases hb with hb | hb
      · rw [h1] at hb; cases hb
      · have h5 := h4 t ht hne
        rw [ltF_not] at h5 ⊢
        rw [ltF_iff] at hb
        omega
  · rw [List.mem_singleton] at ht; subst ht; exact ltF_irr _
theorem Best.stay {pre : List Fd} {but : Int} {q f : Fd} (h : Best pre but true q) (hb : ltF f q = false) : Best (pre ++ [f]) but true q := by
  rcases h with ⟨h1, _⟩ | ⟨h1, h2, h3, h4⟩
  · cases h1
  · refine Or.inr ⟨rfl, List.mem_append_left _ h2, h3, fun t ht hne => ?_⟩
    rcases List.mem_append.1 ht with ht | ht
    · exact h4 t ht hne
    · rw [List.mem_singleton] at ht; subst ht; exact hb
end Go.Proofs.Ytnilgnnlobiojaa
