/- strings.Builder: copyCheck 54, WriteByte 32; the signs: hasSign 31, signOf 33. -/
import Derived.Test.YthinldcblbgdnaaDoorRefT
import Derived.Shelf.Strings.Builder1
namespace Go.Proofs.YthinldcblbgdnaaDoor
open Go.RowKit
/-- A builder in block b, written to since or not, with the bytes xs in a row of its own. -/
def Bu (w : World) (b : Nat) (xs : List Int) : Prop := ∃ (u : Value) (r : Option Addr) (cap : Nat), (u = .pointer none ∨ u = .pointer (some ⟨b, 0, none⟩)) ∧ Blk w b [u, .slice r xs.length cap] 50 ∧ OwnR encU 5 1 w (b + 1) (.slice r xs.length cap) xs
theorem size50 : (Tryd.prog.info? 50).map (·.size) = some 2 := by kernel_rfl
set_option maxRecDepth 20000 in
set_option maxHeartbeats 4000000 in
theorem copyCheck_any (b : Nat) (u v : Value) (w : World) (hu : u = .pointer none ∨ u = .pointer (some ⟨b, 0, none⟩)) (h : Blk w b [u, v] 50) :
    Calls Tryd.prog 54 #[.pointer (some ⟨b, 0, none⟩)] w fun e w' => e = .returned (.tuple #[]) ∧ (w' = w ∨ w' = w.setCell ⟨b, 0, none⟩ (.pointer (some ⟨b, 0, none⟩))) ∧ Blk w' b [.pointer (some ⟨b, 0, none⟩), v] 50 := by
  have c0 := h.cell 0
  have f0 := h.frozen 0
  simp only [List.getElem?_cons_zero] at c0
  have hsh : w.shape? b = some (50, 2) := by unfold Blk at h; simp [World.shape?, h]
  rcases hu with rfl | rfl
  · have hk := hid (h.set 0 (.pointer (some ⟨b, 0, none⟩)))
    clear h
    obtain ⟨j, hj, hjs⟩ := Option.map_eq_some_iff.1 size50
    go_enter Tryd.func54, Tryd.ntmps54
    go_wp2
    rw [Lib.run_to_unsafe w ⟨b, 0, none⟩ Tryd.underlying47 Tryd.underlying74 hj (by rw [hjs]; decide) hsh (Nat.zero_lt_succ 1)]
    simp only [Result.andThen]
    rw [Oper.upon_value]
    go_wp2
    rw [run_callFunc_extern Tryd.func59 (by kernel_rfl) (by kernel_rfl) (by kernel_rfl) (e := Extern.AbiNoEscape.same) (by kernel_rfl)]
    rw [Lib.run_noEscape]
    simp only [Result.andThen]
    rw [Oper.upon_value]
    go_wp2
    rw [Lib.run_from_unsafe w ⟨b, 0, none⟩ Tryd.underlying74 Tryd.underlying47 hj hsh (by kernel_rfl)]
    simp only [Result.andThen]
    rw [Oper.upon_value]
    go_wp2
    go_end0
    exact ⟨rfl, Or.inr rfl, hk.out⟩
  · have hk := hid h
    clear h
    obtain ⟨j, hj, hjs⟩ := Option.map_eq_some_iff.1 size50
    go_enter Tryd.func54, Tryd.ntmps54
    go_wp2
    rw [Lib.run_neq_ptr_same w _ Tryd.underlying47 hj]
    go_wp2
    go_end0
    exact ⟨rfl, Or.inl rfl, hk.out⟩
theorem hasSign_any (o : Int) (ho : 0 ≤ o) (w : World) : Calls Tryd.prog 31 #[.int .i64 o] w fun e w' => e = .returned (.bool (okSign o)) ∧ w' = w := by
  have hmod : o.tmod 10 = o % 10 := Int.tmod_eq_emod_of_nonneg ho
  unfold okSign
  by_cases h1 : o % 10 = 0
  · rw [h1] at hmod
    by_cases h2 : o ≤ 90
    · rw [decide_eq_true h1, decide_eq_true h2]
      go_enter Tryd.func31, Tryd.ntmps31
      go_wp2
      go_ret
      exact ⟨rfl, rfl⟩
    · rw [decide_eq_true h1, decide_eq_false h2]
      go_enter Tryd.func31, Tryd.ntmps31
      go_wp2
      go_ret
      exact ⟨rfl, rfl⟩
  · rw [decide_eq_false h1]
    have h1' : ((o % 10) == 0) = false := by simp; exact h1
    go_enter Tryd.func31, Tryd.ntmps31
    go_wp2
    go_ret
    exact ⟨rfl, rfl⟩
theorem signOf_any (t o : Int) (h : ((t = 0 ∨ t = 1) ∧ o = 0) ∨ (t = 2 ∧ 0 ≤ o ∧ o ≤ 90)) (w : World) : Calls Tryd.prog 33 #[.int .i64 t, .int .i64 o] w fun e w' => e = .returned (.int .u8 (sgnB t o)) ∧ w' = w := by
  rcases (show (t = 1 ∧ o = 0) ∨ (t = 0 ∧ o = 0) ∨ (t = 2 ∧ o = 0) ∨ (t = 2 ∧ 0 < o) by omega) with ⟨rfl, rfl⟩ | ⟨rfl, rfl⟩ | ⟨rfl, rfl⟩ | ⟨rfl, hop⟩
  · go_enter Tryd.func33, Tryd.ntmps33
    go_wp2
    go_ret
    exact ⟨rfl, rfl⟩
  · go_enter Tryd.func33, Tryd.ntmps33
    go_wp2
    go_ret
    exact ⟨rfl, rfl⟩
  · go_enter Tryd.func33, Tryd.ntmps33
    go_wp2
    go_ret
    exact ⟨rfl, rfl⟩
  · have hdiv : o.tdiv 10 = o / 10 := Int.tdiv_eq_ediv_of_nonneg (by omega)
    have hsg : sgnB 2 o = 48 + o / 10 := by unfold sgnB; rw [if_neg (by decide), if_pos hop]
    rw [hsg]
    obtain ⟨D, hD⟩ : ∃ D, D = o / 10 := ⟨_, rfl⟩
    rw [← hD] at hdiv ⊢
    have hD0 : 0 ≤ D := by omega
    have hD9 : D ≤ 9 := by omega
    have ho0 : (o == 0) = false := by simp; omega
    have hw1 : IntKind.u8.wrap D = D := by unfold IntKind.wrap; simp [IntKind.signed, IntKind.bits]; omega
    have hw8 : IntKind.u8.wrap (48 + D) = 48 + D := by unfold IntKind.wrap; simp [IntKind.signed, IntKind.bits]; omega
    clear hsg hD h
    go_enter Tryd.func33, Tryd.ntmps33
    go_wp2
    go_ret
    exact ⟨rfl, rfl⟩
set_option maxRecDepth 20000 in
set_option maxHeartbeats 4000000 in
theorem writeByte_any (b : Nat) (z : Int) (X : List Int) (w : World) (h : Bu w b X) (hl : X.length + 1 ≤ 1000000) :
    Calls Tryd.prog 32 #[.pointer (some ⟨b, 0, none⟩), .int .u8 z] w fun e w' => e = .returned .nilIface ∧ Bu w' b (X ++ [z]) ∧ Below b w w' := by
  obtain ⟨u, r, cap, hu, hk, ho⟩ := h
  have hc := hid (copyCheck_any b u _ w hu hk)
  have hlt := hk.lt
  have HO := hid ho
  obtain ⟨L, hL⟩ : ∃ L, L = X.length := ⟨_, rfl⟩
  rw [← hL] at hc HO hl
  have HL := hid (fun (_ : Nat) => hL)
  clear hk ho hL hu
  go_enter Tryd.func32, Tryd.ntmps32
  go_wp2_with fail
  refine Calls.mono hc.out ?_
  rintro e w1 ⟨rfl, hw, hk1⟩
  have hb1 : Below b w w1 := by
    rcases hw with rfl | rfl
    · exact Below.refl _ _
    · exact (Below.refl b w).setCell (show b ≤ (⟨b, 0, none⟩ : Addr).block from Nat.le_refl _) _
  have ho1 : OwnR encU 5 1 w1 (b + 1) (.slice r L cap) X := by
    rcases hw with rfl | rfl
    · exact HO.out
    · exact HO.out.stay fun k hk => Below.heap_setCell _ _ _ _ (by have := (HO.out.block k hk).1; show k ≠ b; omega)
  have c1 := hk1.cell 1
  simp only [List.getElem?_cons_succ, List.getElem?_cons_zero] at c1
  have hAL : Below w1.heap.size w1 (w1.alloc (.cells #[.int .u8 z] 5)) := (Below.refl _ _).alloc (Nat.le_refl _) _
  have HOA := hid (ho1.below hAL)
  have HKA := hid (hk1.alloc (.cells #[.int .u8 z] 5))
  have HRA : Hid (RowAt encU 1 (w1.alloc (.cells #[.int .u8 z] 5)) (.slice (some ⟨w1.heap.size, 0, none⟩) 1 1) [z]) := hid (RowAt.one _ _ _ _ rfl)
  have HNA : Hid (X.length + [z].length = L + 1) := by rw [← HL.out 0]; exact hid rfl
  have HBA : Hid (b + 1 ≤ (w1.alloc (.cells #[.int .u8 z] 5)).heap.size) := hid (by have := hk1.lt; simp; omega)
  have HWA := hid ((hb1.trans (hAL.mono (by have := hk1.lt; omega))))
  clear hAL hk1 ho1 hb1 hw hc HO
  go_wp2_with (first
    | ((with_reducible refine wpL_appendR layU (S := 48) Tryd.underlying48 info5 rfl (by omega) (b + 1) (.slice r L cap) (.slice (some ⟨w1.heap.size, 0, none⟩) 1 1) X [z] (L + 1) (by simp) HNA.out ?_ ?_ HOA.out HRA.out (by omega) HBA.out ?_); (rfl); (rfl); (intro r2 cap2 w5 ho5 hg5); (have hx5 := hg5.blk HKA.out (fun e => by have := (HOA.out.block _ e).1; omega)); (have HX5 := hid hx5); (have d5 := hx5.cell 1); (have f5 := hx5.frozen 1); (simp only [List.getElem?_cons_succ, List.getElem?_cons_zero] at d5); (have HO5 := hid ho5); (have HG5 := hid hg5); (clear hx5 ho5 hg5); (simp only [Act.put, List.setIfInBounds_toArray, List.set_cons_zero, List.set_cons_succ])))
  go_ret
  have hk5 := HX5.out.set 1 (.slice r2 (L + 1) cap2)
  have ho6 : OwnR encU 5 1 (w5.setCell ⟨b, 1, none⟩ (.slice r2 (L + 1) cap2)) (b + 1) (.slice r2 (L + 1) cap2) (X ++ [z]) := HO5.out.stay fun k hk => Below.heap_setCell _ _ _ _ (by have := (HO5.out.block k hk).1; show k ≠ b; omega)
  have hlen : (X ++ [z]).length = L + 1 := by rw [List.length_append]; exact HNA.out
  refine ⟨rfl, ⟨_, r2, cap2, Or.inr rfl, ?_, ?_⟩, ?_⟩
  · rw [hlen]; exact hk5
  · rw [hlen]; exact ho6
  · have h9 := HG5.out.belowR HOA.out HBA.out
    exact (HWA.out.trans (h9.mono (by omega))).setCell (show b ≤ (⟨b, 1, none⟩ : Addr).block from Nat.le_refl _) _
end Go.Proofs.YthinldcblbgdnaaDoor
