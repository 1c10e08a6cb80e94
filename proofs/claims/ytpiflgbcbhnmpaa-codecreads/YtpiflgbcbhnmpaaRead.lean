/- What ReadNumber and ReadSigned answer. -/
import Derived.Test.YtpiflgbcbhnmpaaJoin
namespace Go.Proofs.Ytpiflgbcbhnmpaa
open Go.RowKit
theorem join_some : ∀ (bs : List Nat) (i n m s : Nat), join bs i n = some (m, s) → i < s ∧ s ≤ i + bs.length
  | [], i, n, m, s, h => by simp [join] at h
  | x :: r, i, n, m, s, h => by
    rw [join.eq_2] at h
    split at h
    · cases h
    · split at h
      · have := join_some r _ _ _ _ h
        simp; omega
      · split at h
        · cases h
        · simp at h; simp; omega
/-- Is a number read? -/
def rdOk (bs : List Nat) : Prop := joinS bs ≠ 0 ∧ joinN bs < 9223372036854775808
instance (bs : List Nat) : Decidable (rdOk bs) := inferInstanceAs (Decidable (_ ∧ _))
def rdN (bs : List Nat) : Nat := if rdOk bs then joinN bs else 0
def rdL (bs : List Nat) : List Nat := if rdOk bs then bs.drop (joinS bs) else []
def rdE (bs : List Nat) : Int := if rdOk bs then 0 else 11
theorem joinS_le (bs : List Nat) : joinS bs ≤ bs.length := by
  unfold joinS
  rcases h : join bs 0 0 with _ | ⟨m, s⟩
  · simp
  · have := join_some bs 0 0 m s h; simp; omega
/-- A value, bytes of the call's own, and an error's number. -/
def OutR (w : World) (base : Nat) (nv : Value) (L : List Nat) (E : Int) (e : Ending) (w' : World) : Prop := ∃ p N cap, N = L.length ∧ e = .returned (.tuple #[nv, .slice p N cap, .int .i64 E]) ∧ OwnB w' base (.slice p N cap) L ∧ Below base w w'
/-- What is behind the first s bytes, as a slice of them is made: of no capacity, it keeps its place. -/
theorem bytes_drop {w : World} {bs : List Nat} {sb so M cap s : Nat} (hM : M = bs.length) (hB : BytesAt w (.slice (some ⟨sb, so, none⟩) M cap) bs) (hle : s ≤ bs.length) (hcap : M ≤ cap) :
    (cap = s → BytesAt w (.slice (some ⟨sb, so, none⟩) (M - s) 0) (bs.drop s)) ∧ (¬ cap = s → BytesAt w (.slice (some ⟨sb, so + s, none⟩) (M - s) (cap - s)) (bs.drop s)) := by
  refine ⟨fun h => ?_, fun _ => ?_⟩
  · have e : bs.drop s = [] := List.drop_eq_nil_of_le (by omega)
    rw [e, show M - s = 0 by omega]
    exact ⟨_, 0, rfl, by simp, (fun h => by cases h), fun h => absurd rfl h⟩
  · have := hB.drop s hle
    rw [hM]; exact this
theorem clone_drop {w : World} {bs : List Nat} {sb so M cap s : Nat} (hM : M = bs.length) (hB : BytesAt w (.slice (some ⟨sb, so, none⟩) M cap) bs) (hle : s ≤ bs.length) (hcap : M ≤ cap) (hsz : M < 1000000000000) :
    (cap = s → Calls Try.prog 45 #[.slice (some ⟨sb, so, none⟩) (M - s) 0] w fun e w' => OutB w w.heap.size (bs.drop s) e w') ∧ (¬ cap = s → Calls Try.prog 45 #[.slice (some ⟨sb, so + s, none⟩) (M - s) (cap - s)] w fun e w' => OutB w w.heap.size (bs.drop s) e w') :=
  ⟨fun h => clone_any _ _ _ _ _ ((bytes_drop hM hB hle hcap).1 h) (by rw [hM]; simp) (by omega), fun h => clone_any _ _ _ _ _ ((bytes_drop hM hB hle hcap).2 h) (by rw [hM]; simp) (by omega)⟩
set_option maxRecDepth 100000 in
theorem readNumber_any (bs : List Nat) (hbs : ∀ x ∈ bs, x < 256) (p : Option Addr) (M cap : Nat) (w : World) (hM : M = bs.length) (hB : BytesAt w (.slice p M cap) bs) (hsz : M < 100000000000) :
    Calls Try.prog 15 #[.slice p M cap] w fun e w' => OutR w w.heap.size (.int .u64 (rdN bs : Int)) (rdL bs) (rdE bs) e w' := by
  have hj := joinSevens_any bs hbs p M cap w hM hB hsz
  have hle := joinS_le bs
  by_cases h : rdOk bs
  · unfold rdN rdL rdE
    rw [if_pos h, if_pos h, if_pos h]
    obtain ⟨h1, h2⟩ := h
    unfold JoinOk at hj
    generalize joinN bs = n at *
    generalize joinS bs = s at *
    have e1 : ((s : Int) == 0) = false := by simp; omega
    have e2 : ¬ (9223372036854775807 : Int) < (n : Int) := by omega
    have e3 : (0 : Int) ≤ (s : Int) := by omega
    have e4 : (s : Int) ≤ (M : Int) := by omega
    have hne : bs ≠ [] := by rintro rfl; simp at hle; omega
    obtain ⟨sb, so, rfl, hcap⟩ : ∃ sb so, p = some ⟨sb, so, none⟩ ∧ M ≤ cap := by
      obtain ⟨p', c', he, hc, _, hh⟩ := hB
      simp at he
      obtain ⟨rfl, rfl, rfl⟩ := he
      obtain ⟨sb, so, rfl, _⟩ := hh hne
      exact ⟨sb, so, rfl, hc⟩
    have hcl := clone_drop hM hB hle hcap (by omega)
    have HM : Hid (M = bs.length) := hM
    clear hM hB hle hne
    go_enter Try.func15, Try.ntmps15
    go_wp2_with fail
    refine hj.mono ?_
    rintro e w1 ⟨rfl, rfl⟩
    by_cases hcs : cap = s
    · have hcl1 := hcl.1 hcs
      clear hcl
      go_wp2_with fail
      refine hcl1.mono ?_
      rintro e w2 ⟨p2, N2, c2, hN2, rfl, ho2, hb2⟩
      have HN2 : Hid (N2 = (bs.drop s).length) := hN2
      clear hN2
      go_wp2
      go_ret3
      exact ⟨p2, N2, c2, HN2.out, rfl, ho2, hb2⟩
    · have hcl1 := hcl.2 hcs
      clear hcl
      go_wp2_with fail
      refine hcl1.mono ?_
      rintro e w2 ⟨p2, N2, c2, hN2, rfl, ho2, hb2⟩
      have HN2 : Hid (N2 = (bs.drop s).length) := hN2
      clear hN2
      go_wp2
      go_ret3
      exact ⟨p2, N2, c2, HN2.out, rfl, ho2, hb2⟩
  · unfold rdN rdL rdE
    rw [if_neg h, if_neg h, if_neg h]
    unfold JoinOk at hj
    unfold rdOk at h
    generalize joinN bs = n at *
    generalize joinS bs = s at *
    clear hB hM
    have e1 : (s : Int) = 0 ∨ (((s : Int) == 0) = false ∧ (9223372036854775807 : Int) < (n : Int)) := by simp; omega
    rcases e1 with e1 | ⟨e1, e2⟩
    · obtain rfl : s = 0 := by omega
      go_enter Try.func15, Try.ntmps15
      go_wp2_with fail
      refine hj.mono ?_
      rintro e w1 ⟨rfl, rfl⟩
      go_wp2
      go_ret3
      exact ⟨none, 0, 0, rfl, rfl, OwnB.nil _ _, Below.refl _ _⟩
    · go_enter Try.func15, Try.ntmps15
      go_wp2_with fail
      refine hj.mono ?_
      rintro e w1 ⟨rfl, rfl⟩
      go_wp2
      go_ret3
      exact ⟨none, 0, 0, rfl, rfl, OwnB.nil _ _, Below.refl _ _⟩
end Go.Proofs.Ytpiflgbcbhnmpaa
