/- compare 32: by distance, then by ID; cmp.Compare 43, cmp.Or 42. -/
import Derived.Test.YtnilgnnlobiojaaSmall
import Derived.Test.YtnilgnnlobiojaaFork
import Derived.Sort.Grow
namespace Go.Proofs.Ytnilgnnlobiojaa
open Go.RowKit
/-- An ID and its distance. -/
abbrev Fd := Int × Int
def cI (a b : Int) : Int := if a < b then -1 else if b < a then 1 else 0
def cmpV (x y : Fd) : Int := if cI x.2 y.2 = 0 then cI x.1 y.1 else cI x.2 y.2
def encFd (x : Fd) : List Value := [.int .i64 x.1, .int .i64 x.2]
theorem nan_any (a : Int) (w : World) : Calls Try.prog 60 #[.int .i64 a] w fun e w' => e = .returned (.bool false) ∧ w' = w := by
  go_enter Try.func60, Try.ntmps60
  go_wp2
  go_ret
  simp
theorem cmpI_any (a b : Int) (w : World) : Calls Try.prog 43 #[.int .i64 a, .int .i64 b] w fun e w' => e = .returned (.int .i64 (cI a b)) ∧ w' = w := by
  have hn := nan_any
  have HN := hid hn
  clear hn
  unfold cI
  by_cases h1 : a < b
  · rw [if_pos h1]
    go_enter Try.func43, Try.ntmps43
    go_wp2_with (go_at_call 60; refine Calls.mono (HN.out _ _) ?_; rintro _ _ ⟨rfl, rfl⟩)
    go_ret
    exact ⟨rfl, rfl⟩
  · rw [if_neg h1]
    have g1 : (a < b) = False := by simp; omega
    by_cases h2 : b < a
    · rw [if_pos h2]
      go_enter Try.func43, Try.ntmps43
      go_wp2_with (go_at_call 60; refine Calls.mono (HN.out _ _) ?_; rintro _ _ ⟨rfl, rfl⟩)
      go_ret
      exact ⟨rfl, rfl⟩
    · rw [if_neg h2]
      have g2 : (b < a) = False := by simp; omega
      go_enter Try.func43, Try.ntmps43
      go_wp2_with (go_at_call 60; refine Calls.mono (HN.out _ _) ?_; rintro _ _ ⟨rfl, rfl⟩)
      go_ret
      exact ⟨rfl, rfl⟩
theorem or_any (s : Nat) (a b : Int) (w : World) (h0 : w.cell? ⟨s, 0, none⟩ = some (.int .i64 a)) (h1 : w.cell? ⟨s, 1, none⟩ = some (.int .i64 b)) :
    Calls Try.prog 42 #[.slice (some ⟨s, 0, none⟩) 2 2] w fun e w' => e = .returned (.int .i64 (if a = 0 then b else a)) ∧ w' = w := by
  by_cases ha : a = 0
  · subst ha
    rw [if_pos rfl]
    by_cases hb : b = 0
    · subst hb
      go_enter Try.func42, Try.ntmps42
      go_wp2
      refine wp_loop_rounds 3 ?_
      repeat (rw [rounds_succ]; go_wp2)
      go_ret
      exact ⟨rfl, rfl⟩
    · have g : (b != 0) = true := by simpa using hb
      go_enter Try.func42, Try.ntmps42
      go_wp2
      refine wp_loop_rounds 3 ?_
      repeat (rw [rounds_succ]; go_wp2)
      go_ret
      exact ⟨rfl, rfl⟩
  · rw [if_neg ha]
    have g : (a != 0) = true := by simpa using ha
    go_enter Try.func42, Try.ntmps42
    go_wp2
    refine wp_loop_rounds 3 ?_
    repeat (rw [rounds_succ]; go_wp2)
    go_ret
    exact ⟨rfl, rfl⟩
/-- A world that has only grown, and drawn. -/
def Gr (w w' : World) : Prop := ∃ q os, w' = Sort.grow (w.drewN q) os
theorem Gr.refl (w : World) : Gr w w := ⟨0, #[], by rw [Sort.grow_empty]; rfl⟩
theorem Gr.alloc {w w' : World} (h : Gr w w') (o : Obj) : Gr w (w'.alloc o) := by
  obtain ⟨q, os, rfl⟩ := h
  exact ⟨q, os ++ #[o], by rw [Sort.alloc_eq_grow, Sort.grow_grow]⟩
theorem Gr.drew {w w' : World} (h : Gr w w') : Gr w w'.drew := by
  obtain ⟨q, os, rfl⟩ := h
  exact ⟨q + 1, os, rfl⟩
theorem Gr.below {w w' : World} (h : Gr w w') : Below w.heap.size w w' := by
  obtain ⟨q, os, rfl⟩ := h
  refine ⟨rfl, rfl, rfl, ?_, fun k hk => ?_⟩
  · show w.heap.size ≤ (w.heap ++ os).size
    rw [Array.size_append]; omega
  · show (w.heap ++ os)[k]? = w.heap[k]?
    rw [Array.getElem?_append_left hk]
/-- A world of compare's. -/
structure Kc (w0 : World) (a b : Nat) (x y : Fd) where
  w : World
  a0 : w.cell? ⟨a, 0, none⟩ = some (.int .i64 x.1)
  a1 : w.cell? ⟨a, 1, none⟩ = some (.int .i64 x.2)
  b0 : w.cell? ⟨b, 0, none⟩ = some (.int .i64 y.1)
  b1 : w.cell? ⟨b, 1, none⟩ = some (.int .i64 y.2)
  gr : Gr w0 w
set_option maxRecDepth 20000 in
set_option maxHeartbeats 4000000 in
theorem compare_any (x y : Fd) (w : World) : Calls Try.prog 32 #[.agg #[.int .i64 x.1, .int .i64 x.2], .agg #[.int .i64 y.1, .int .i64 y.2]] w fun e w' => e = .returned (.int .i64 (cmpV x y)) ∧ Gr w w' := by
  obtain ⟨xi, xd⟩ := x
  obtain ⟨yi, yd⟩ := y
  obtain ⟨A, hA⟩ : ∃ A, A = w.heap.size := ⟨_, rfl⟩
  obtain ⟨V, hV⟩ : ∃ V, V = w.alloc (.cells #[.int .i64 xi, .int .i64 xd] 64) := ⟨_, rfl⟩
  obtain ⟨B, hB⟩ : ∃ B, B = A + 1 := ⟨_, rfl⟩
  have hBV : B = V.heap.size := by rw [hB, hA, hV]; simp
  obtain ⟨W, hW⟩ : ∃ W, W = V.alloc (.cells #[.int .i64 yi, .int .i64 yd] 64) := ⟨_, rfl⟩
  have hb1 : Blk W A [.int .i64 xi, .int .i64 xd] 64 := by rw [hW, hV]; exact (Blk.new' _ _ _ _ hA).alloc _
  have hb2 : Blk W B [.int .i64 yi, .int .i64 yd] 64 := by rw [hW]; exact Blk.new' _ _ _ _ hBV
  have hg : Gr w W := by rw [hW, hV]; exact ((Gr.refl w).alloc _).alloc _
  have HB1 := hid hb1
  have HB2 := hid hb2
  have HG := hid hg
  obtain ⟨p, hp⟩ : ∃ p, p = cI xd yd := ⟨_, rfl⟩
  obtain ⟨q, hq⟩ : ∃ q, q = cI xi yi := ⟨_, rfl⟩
  have hcv : cmpV (xi, xd) (yi, yd) = if p = 0 then q else p := by rw [hp, hq]; rfl
  rw [hcv]
  have hc1 := fun W' => cmpI_any xd yd W'
  have hc2 := fun W' => cmpI_any xi yi W'
  rw [← hp] at hc1
  rw [← hq] at hc2
  have HC1 := hid hc1
  have HC2 := hid hc2
  clear hb1 hb2 hg hcv hp hq hc1 hc2 hBV
  obtain ⟨r, hr⟩ : ∃ r, r = if p = 0 then q else p := ⟨_, rfl⟩
  rw [← hr]
  have HR := hid (fun (_ : Nat) => hr)
  clear hr
  go_enter Try.func32, Try.ntmps32
  go_upto_region 1 with fail
  rw [← hV, ← hA, ← hB, ← hW]
  clear hV hB hA hW
  have k0 : ∀ q : Kc w A B (xi, xd) (yi, yd), q.w.cell? ⟨A, 0, none⟩ = some (.int .i64 xi) := fun q => q.a0
  have k1 : ∀ q : Kc w A B (xi, xd) (yi, yd), q.w.cell? ⟨A, 1, none⟩ = some (.int .i64 xd) := fun q => q.a1
  have k2 : ∀ q : Kc w A B (xi, xd) (yi, yd), q.w.cell? ⟨B, 0, none⟩ = some (.int .i64 yi) := fun q => q.b0
  have k3 : ∀ q : Kc w A B (xi, xd) (yi, yd), q.w.cell? ⟨B, 1, none⟩ = some (.int .i64 yd) := fun q => q.b1
  have key : ∀ Z, Below W.heap.size W Z → Gr w Z → ∃ q : Kc w A B (xi, xd) (yi, yd), Z = q.w := fun Z hz hg => by
    have h1 := HB1.out.below hz HB1.out.lt
    have h2 := HB2.out.below hz HB2.out.lt
    exact ⟨⟨Z, h1.cell 0, h1.cell 1, h2.cell 0, h2.cell 1, hg⟩, rfl⟩
  refine wp_region_calm (S := fun w' => ∃ q : Kc w A B (xi, xd) (yi, yd), w' = q.w) ((0, false) :: (1, false) :: (2, false) :: (3, false) :: (5, false) :: (6, false) :: (7, false) :: (8, false) :: (4, true) :: (9, true) :: (10, true) :: (11, true) :: (12, false) :: []) rfl (by kernel_rfl) (by kernel_rfl) (by kernel_rfl) (key _ (Below.drewN (Below.refl _ _) 1) HG.out.drew) ?_
  iterate 8 (refine plan_take rfl (fun K hK => ?_); go_simp; (refine ⟨_, fun _ => rfl, hK _ ?_⟩); clear hK K)
  refine plan_turn rfl (fun K hK => ?_)
  go_simp
  refine Calls.mono (HC1.out _) ?_
  rintro _ _ ⟨rfl, rfl⟩
  refine hK _ _ (key _ (Below.drewN (Below.refl _ _) 1) HG.out.drew) ?_
  clear hK K
  refine plan_turn rfl (fun K hK => ?_)
  go_simp
  refine Calls.mono (HC2.out _) ?_
  rintro _ _ ⟨rfl, rfl⟩
  refine hK _ _ (key _ (Below.drewN (Below.refl _ _) 1) HG.out.drew) ?_
  clear hK K
  obtain ⟨U, hU⟩ : ∃ U, U = (W.alloc (.cells #[.int .i64 p, .int .i64 q] 3)).drew := ⟨_, rfl⟩
  obtain ⟨s, hs⟩ : ∃ s, s = W.heap.size := ⟨_, rfl⟩
  have HSU : Hid (Blk U s [.int .i64 p, .int .i64 q] 3) := by rw [hU]; exact Blk.new' W _ _ _ hs
  have HBU : Hid (Below W.heap.size W U) := by rw [hU]; exact Below.drewN ((Below.refl _ _).alloc (Nat.le_refl _) _) 1
  have HGU : Hid (Gr w U) := by rw [hU]; exact (HG.out.alloc _).drew
  refine plan_turn rfl (fun K hK => ?_)
  go_simp
  rw [← hU, ← hs]
  refine hK _ _ (key _ HBU.out HGU.out) ?_
  clear hK K hU hs
  refine plan_turn rfl (fun K hK => ?_)
  go_simp
  refine Calls.mono (or_any s p q U (HSU.out.cell 0) (HSU.out.cell 1)) ?_
  rintro _ _ ⟨rfl, rfl⟩
  refine hK _ _ (key _ HBU.out HGU.out) ?_
  clear hK K
  rw [← HR.out 0]
  refine plan_take rfl (fun K hK => ?_)
  go_simp
  refine ⟨_, fun _ => rfl, hK _ ?_⟩
  clear hK K
  refine plan_done ⟨rfl, ?_⟩
  go_wp2
  go_ret
  exact ⟨rfl, HGU.out⟩
end Go.Proofs.Ytnilgnnlobiojaa
