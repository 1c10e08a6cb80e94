/- What ReadSigned answers. -/
import Derived.Test.YtpiflgbcbhnmpaaRefRead
import Derived.Test.YtpiflgbcbhnmpaaReady
namespace Go.Proofs.Ytpiflgbcbhnmpaa
open Go.RowKit
/-- The signed number that a number stands for. -/
def unf (f : Nat) : Int := if f % 2 = 1 then -((f / 2 : Nat) : Int) else ((f / 2 : Nat) : Int)
theorem bits_and1 (n : Nat) (h : n < 18446744073709551616) : bits .and .u64 (n : Int) 1 = ((n % 2 : Nat) : Int) := by
  have e1 : (BitVec.ofInt 64 (n : Int)) = BitVec.ofNat 64 n := by
    apply BitVec.eq_of_toNat_eq; simp
  have e2 : (BitVec.ofInt 64 1) = 1#64 := rfl
  have e3 : (BitVec.ofNat 64 n &&& 1#64).toNat = n % 2 := by
    rw [BitVec.toNat_and, BitVec.toNat_ofNat, Nat.mod_eq_of_lt (by omega)]
    exact Nat.and_one_is_mod n
  show IntKind.u64.wrap (((BitVec.ofInt 64 (n : Int)) &&& (BitVec.ofInt 64 1)).toNat : Int) = _
  rw [e1, e2, e3]
  exact wrap_u64 _ (by omega)
set_option maxRecDepth 100000 in
theorem unfoldSign_any (f : Nat) (hf : f < 18446744073709551616) (w : World) :
    Calls Try.prog 50 #[.int .u64 (f : Int)] w fun e w' => e = .returned (.int .i64 (unf f)) ∧ w' = w := by
  have b1 := bits_and1 f hf
  have b2 : IntKind.i64.wrap ((f : Int) / 2) = (f : Int) / 2 := by rw [IntKind.wrap_i64]; omega
  rcases Nat.mod_two_eq_zero_or_one f with h | h
  · have e : unf f = (f : Int) / 2 := by unfold unf; rw [if_neg (by omega)]; omega
    rw [h] at b1
    rw [e]
    go_enter Try.func50, Try.ntmps50
    go_wp2
    go_ret
    exact ⟨rfl, rfl⟩
  · have e : unf f = -((f : Int) / 2) := by unfold unf; rw [if_pos (by omega)]; omega
    have b3 : IntKind.i64.wrap (-((f : Int) / 2)) = -((f : Int) / 2) := by rw [IntKind.wrap_i64]; omega
    rw [h] at b1
    rw [e]
    go_enter Try.func50, Try.ntmps50
    go_wp2
    go_ret
    exact ⟨rfl, rfl⟩
/-- Is a signed number read? -/
def rsOk (bs : List Nat) : Prop := joinS bs ≠ 0 ∧ joinN bs ≠ 1
instance (bs : List Nat) : Decidable (rsOk bs) := inferInstanceAs (Decidable (_ ∧ _))
def rsZ (bs : List Nat) : Int := if rsOk bs then unf (joinN bs) else 0
def rsL (bs : List Nat) : List Nat := if rsOk bs then bs.drop (joinS bs) else []
def rsE (bs : List Nat) : Int := if rsOk bs then 0 else 11
theorem join_lt : ∀ (bs : List Nat) (i n m s : Nat), (∀ x ∈ bs, x < 256) → i ≤ 9 → n < 2 ^ (7 * i) → join bs i n = some (m, s) → m < 18446744073709551616
  | [], i, n, m, s, _, _, _, h => by simp [join] at h
  | x :: r, i, n, m, s, hx, hi, hn, h => by
    rw [join.eq_2] at h
    split at h
    · cases h
    · next hb =>
      have hx0 : x < 256 := hx x (by simp)
      obtain ⟨h1, h2⟩ := step_lt i n (x % 128) hi hn (by omega) (by omega)
      split at h
      · exact join_lt r _ _ _ _ (fun y hy => hx y (by simp [hy])) (by omega) (h2 (by omega)) h
      · split at h
        · cases h
        · simp at h; omega
theorem joinN_lt (bs : List Nat) (hbs : ∀ x ∈ bs, x < 256) : joinN bs < 18446744073709551616 := by
  unfold joinN
  rcases h : join bs 0 0 with _ | ⟨m, s⟩
  · simp
  · exact join_lt bs 0 0 m s hbs (by omega) (by simp) h
set_option maxRecDepth 100000 in
set_option maxHeartbeats 1000000 in
theorem readSigned_any (bs : List Nat) (hbs : ∀ x ∈ bs, x < 256) (p : Option Addr) (M cap : Nat) (w : World) (hM : M = bs.length) (hB : BytesAt w (.slice p M cap) bs) (hsz : M < 100000000000) :
    Calls Try.prog 17 #[.slice p M cap] w fun e w' => OutR w w.heap.size (.int .i64 (rsZ bs)) (rsL bs) (rsE bs) e w' := by
  have hj := joinSevens_any bs hbs p M cap w hM hB hsz
  have hle := joinS_le bs
  have hlt := joinN_lt bs hbs
  by_cases h : rsOk bs
  · unfold rsZ rsL rsE
    rw [if_pos h, if_pos h, if_pos h]
    obtain ⟨h1, h2⟩ := h
    unfold JoinOk at hj
    generalize joinN bs = n at *
    generalize joinS bs = s at *
    have hu : Hid (∀ W, Calls Try.prog 50 #[.int .u64 (n : Int)] W fun e w' => e = .returned (.int .i64 (unf n)) ∧ w' = W) := fun W => unfoldSign_any n hlt W
    generalize unf n = Z at *
    have e1 : ((s : Int) == 0) = false := by simp; omega
    have e2 : ((n : Int) == 1) = false := by simp; omega
    have e3 : (0 : Int) ≤ (s : Int) := by omega
    have e4 : (s : Int) ≤ (M : Int) := by omega
    have hne : bs ≠ [] := by rintro rfl; simp at hle; omega
    obtain ⟨sb, so, rfl, hcap⟩ : ∃ sb so, p = some ⟨sb, so, none⟩ ∧ M ≤ cap := by
      obtain ⟨p', c', he, hc, _, hh⟩ := hB
      simp at he
      obtain ⟨rfl, rfl, rfl⟩ := he
      obtain ⟨sb, so, rfl, _⟩ := hh hne
      exact ⟨sb, so, rfl, hc⟩
    have hcl : Hid ((cap = s → Calls Try.prog 45 #[.slice (some ⟨sb, so, none⟩) (M - s) 0] w.drew fun e w' => OutB w.drew w.heap.size (bs.drop s) e w') ∧ (¬ cap = s → Calls Try.prog 45 #[.slice (some ⟨sb, so + s, none⟩) (M - s) (cap - s)] w.drew fun e w' => OutB w.drew w.heap.size (bs.drop s) e w')) := clone_drop (w := w.drew) hM hB hle hcap (by omega)
    have HM : Hid (M = bs.length) := hM
    clear hM hB hle hne
    go_enter Try.func17, Try.ntmps17
    go_wp2_with fail
    refine hj.mono ?_
    rintro e w1 ⟨rfl, rfl⟩
    by_cases hcs : cap = s
    · have hcl1 : Hid _ := hcl.out.1 hcs
      clear hcl
      go_upto_region 4 with (fail)
      refine wp_region_noPanic ?_
      refine wp_region_any (by kernel_rfl) ?_
      change wpAny _ _ _ _ _ _ _ (World.drew _)
      refine take_op (i := 0) (.int .u64 (n : Int)) (by exact rfl) (by kernel_rfl) (by kernel_rfl) (by kernel_rfl) (fun _ _ _ h => h) (fun w => by go_simp) ?_
      simp only [Act.put, List.setIfInBounds_toArray, List.set_cons_zero, List.set_cons_succ]
      refine take_op (i := 2) (.slice (some ⟨sb, so, none⟩) M cap) (by exact rfl) (by kernel_rfl) (by kernel_rfl) (by kernel_rfl) (fun _ _ _ h => h) (fun w => by go_simp) ?_
      simp only [Act.put, List.setIfInBounds_toArray, List.set_cons_zero, List.set_cons_succ]
      refine take_op (i := 3) (.int .i64 (s : Int)) (by exact rfl) (by kernel_rfl) (by kernel_rfl) (by kernel_rfl) (fun _ _ _ h => h) (fun w => by go_simp) ?_
      simp only [Act.put, List.setIfInBounds_toArray, List.set_cons_zero, List.set_cons_succ]
      refine take_op (i := 4) (.slice (some ⟨sb, so, none⟩) (M - s) 0) (by exact rfl) (by kernel_rfl) (by kernel_rfl) (by kernel_rfl) (fun _ _ _ h => h) (fun w => by go_simp; done) ?_
      simp only [Act.put, List.setIfInBounds_toArray, List.set_cons_zero, List.set_cons_succ]
      refine wpAny_ready (rs := [1]) (by kernel_rfl) (by simp) ?_
      refine ready_call 50 _ _ #[.int .u64 (n : Int)] (by exact rfl) (by go_simp) (by go_simp) ?_ AllReady.nil
      refine (hu.out _).mono ?_
      rintro e w9 ⟨rfl, rfl⟩
      refine ⟨_, rfl, ?_⟩
      simp only [Act.put, List.setIfInBounds_toArray, List.set_cons_zero, List.set_cons_succ]
      refine wpAny_ready (rs := [5]) (by kernel_rfl) (by simp) ?_
      refine ready_call 45 _ _ #[.slice (some ⟨sb, so, none⟩) (M - s) 0] (by exact rfl) (by go_simp) (by go_simp) ?_ AllReady.nil
      refine Calls.mono hcl1.out ?_
      rintro e w2 ⟨p2, N2, c2, hN2, rfl, ho2, hb2⟩
      refine ⟨_, rfl, ?_⟩
      simp only [Act.put, List.setIfInBounds_toArray, List.set_cons_zero, List.set_cons_succ]
      have HN2 : Hid (N2 = (bs.drop s).length) := hN2
      clear hN2
      refine take_op (i := 6) (.int .i64 Z) (by exact rfl) (by kernel_rfl) (by kernel_rfl) (by kernel_rfl) (fun _ _ _ h => h) (fun w => by go_simp) ?_
      simp only [Act.put, List.setIfInBounds_toArray, List.set_cons_zero, List.set_cons_succ]
      refine take_op (i := 7) (.slice p2 N2 c2) (by exact rfl) (by kernel_rfl) (by kernel_rfl) (by kernel_rfl) (fun _ _ _ h => h) (fun w => by go_simp) ?_
      simp only [Act.put, List.setIfInBounds_toArray, List.set_cons_zero, List.set_cons_succ]
      refine take_op (i := 8) (.int .i64 0) (by exact rfl) (by kernel_rfl) (by kernel_rfl) (by kernel_rfl) (fun _ _ _ h => h) (fun w => by go_simp) ?_
      simp only [Act.put, List.setIfInBounds_toArray, List.set_cons_zero, List.set_cons_succ]
      refine wpAny_done (by kernel_rfl) (NoPanic.normal ?_) _
      go_wp2
      go_ret3
      exact ⟨p2, N2, c2, HN2.out, rfl, ho2, ((Below.refl _ _).drew).trans hb2⟩
    · have hcl1 : Hid _ := hcl.out.2 hcs
      clear hcl
      go_upto_region 4 with (fail)
      refine wp_region_noPanic ?_
      refine wp_region_any (by kernel_rfl) ?_
      change wpAny _ _ _ _ _ _ _ (World.drew _)
      refine take_op (i := 0) (.int .u64 (n : Int)) (by exact rfl) (by kernel_rfl) (by kernel_rfl) (by kernel_rfl) (fun _ _ _ h => h) (fun w => by go_simp) ?_
      simp only [Act.put, List.setIfInBounds_toArray, List.set_cons_zero, List.set_cons_succ]
      refine take_op (i := 2) (.slice (some ⟨sb, so, none⟩) M cap) (by exact rfl) (by kernel_rfl) (by kernel_rfl) (by kernel_rfl) (fun _ _ _ h => h) (fun w => by go_simp) ?_
      simp only [Act.put, List.setIfInBounds_toArray, List.set_cons_zero, List.set_cons_succ]
      refine take_op (i := 3) (.int .i64 (s : Int)) (by exact rfl) (by kernel_rfl) (by kernel_rfl) (by kernel_rfl) (fun _ _ _ h => h) (fun w => by go_simp) ?_
      simp only [Act.put, List.setIfInBounds_toArray, List.set_cons_zero, List.set_cons_succ]
      refine take_op (i := 4) (.slice (some ⟨sb, so + s, none⟩) (M - s) (cap - s)) (by exact rfl) (by kernel_rfl) (by kernel_rfl) (by kernel_rfl) (fun _ _ _ h => h) (fun w => by go_simp; done) ?_
      simp only [Act.put, List.setIfInBounds_toArray, List.set_cons_zero, List.set_cons_succ]
      refine wpAny_ready (rs := [1]) (by kernel_rfl) (by simp) ?_
      refine ready_call 50 _ _ #[.int .u64 (n : Int)] (by exact rfl) (by go_simp) (by go_simp) ?_ AllReady.nil
      refine (hu.out _).mono ?_
      rintro e w9 ⟨rfl, rfl⟩
      refine ⟨_, rfl, ?_⟩
      simp only [Act.put, List.setIfInBounds_toArray, List.set_cons_zero, List.set_cons_succ]
      refine wpAny_ready (rs := [5]) (by kernel_rfl) (by simp) ?_
      refine ready_call 45 _ _ #[.slice (some ⟨sb, so + s, none⟩) (M - s) (cap - s)] (by exact rfl) (by go_simp) (by go_simp) ?_ AllReady.nil
      refine Calls.mono hcl1.out ?_
      rintro e w2 ⟨p2, N2, c2, hN2, rfl, ho2, hb2⟩
      refine ⟨_, rfl, ?_⟩
      simp only [Act.put, List.setIfInBounds_toArray, List.set_cons_zero, List.set_cons_succ]
      have HN2 : Hid (N2 = (bs.drop s).length) := hN2
      clear hN2
      refine take_op (i := 6) (.int .i64 Z) (by exact rfl) (by kernel_rfl) (by kernel_rfl) (by kernel_rfl) (fun _ _ _ h => h) (fun w => by go_simp) ?_
      simp only [Act.put, List.setIfInBounds_toArray, List.set_cons_zero, List.set_cons_succ]
      refine take_op (i := 7) (.slice p2 N2 c2) (by exact rfl) (by kernel_rfl) (by kernel_rfl) (by kernel_rfl) (fun _ _ _ h => h) (fun w => by go_simp) ?_
      simp only [Act.put, List.setIfInBounds_toArray, List.set_cons_zero, List.set_cons_succ]
      refine take_op (i := 8) (.int .i64 0) (by exact rfl) (by kernel_rfl) (by kernel_rfl) (by kernel_rfl) (fun _ _ _ h => h) (fun w => by go_simp) ?_
      simp only [Act.put, List.setIfInBounds_toArray, List.set_cons_zero, List.set_cons_succ]
      refine wpAny_done (by kernel_rfl) (NoPanic.normal ?_) _
      go_wp2
      go_ret3
      exact ⟨p2, N2, c2, HN2.out, rfl, ho2, ((Below.refl _ _).drew).trans hb2⟩
  · unfold rsZ rsL rsE
    rw [if_neg h, if_neg h, if_neg h]
    unfold JoinOk at hj
    unfold rsOk at h
    generalize joinN bs = n at *
    generalize joinS bs = s at *
    clear hB hM
    have e1 : (s : Int) = 0 ∨ (((s : Int) == 0) = false ∧ (n : Int) = 1) := by simp; omega
    rcases e1 with e1 | ⟨e1, e2⟩
    · obtain rfl : s = 0 := by omega
      go_enter Try.func17, Try.ntmps17
      go_wp2_with fail
      refine hj.mono ?_
      rintro e w1 ⟨rfl, rfl⟩
      go_wp2
      go_ret3
      exact OutR.bad _ _
    · obtain rfl : n = 1 := by omega
      go_enter Try.func17, Try.ntmps17
      go_wp2_with fail
      refine hj.mono ?_
      rintro e w1 ⟨rfl, rfl⟩
      go_wp2
      go_ret3
      exact OutR.bad _ _
end Go.Proofs.Ytpiflgbcbhnmpaa
