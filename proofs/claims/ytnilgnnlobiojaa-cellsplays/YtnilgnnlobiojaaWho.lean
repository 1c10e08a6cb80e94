/- Who 13. -/
import Derived.Test.YtnilgnnlobiojaaSmall
namespace Go.Proofs.Ytnilgnnlobiojaa
open Go.RowKit
theorem who_nil (x y : Int) (w : World) : Calls Try.prog 13 #[.pointer none, C x y] w fun e w' => OutI w [] e w' := by
  unfold C
  go_enter Try.func13, Try.ntmps13
  go_wp2
  go_ret
  exact ⟨none, 0, rfl, OwnI.nil _ _, (Below.refl _ _).alloc (Nat.le_refl _) _⟩
/-- A world in which the map of cells and what it holds at one cell are so. -/
structure Kw (b : Nat) (oa : Option Nat) (g : Nat) (x y : Int) (v : Value) (V : World) where
  w : World
  c0 : w.cell? ⟨b, 0, none⟩ = some (.map oa)
  g0 : w.cell? ⟨g, 0, none⟩ = some (.int .i64 x)
  g1 : w.cell? ⟨g, 1, none⟩ = some (.int .i64 y)
  lk : (Instr.lookup 52 (.map oa) (.agg #[.int .i64 x, .int .i64 y]) false).run Try.prog w = .ok v w
  be : Below V.heap.size V w
set_option maxRecDepth 20000 in
set_option maxHeartbeats 4000000 in
theorem who_any (b base n : Nat) (A : Cl → List Int) (F : Int → Option Cl) (x y : Int) (w : World) (h : Ix w b base A F n) (hn : (A (x, y)).length ≤ 1000000) : Calls Try.prog 13 #[.pointer (some ⟨b, 0, none⟩), C x y] w fun e w' => OutI w (A (x, y)) e w' := by
  obtain ⟨oa, ow, fa, hy⟩ := h.iy
  obtain ⟨W, hW⟩ : ∃ W, W = w.alloc (.cells #[.int .i64 x, .int .i64 y] 32) := ⟨_, rfl⟩
  obtain ⟨g, hg⟩ : ∃ g, g = w.heap.size := ⟨_, rfl⟩
  have hB0 : Below w.heap.size w W := by rw [hW]; exact (Below.refl _ _).alloc (Nat.le_refl _) _
  have hG0 : Blk W g [.int .i64 x, .int .i64 y] 32 := by rw [hW]; exact Blk.new' _ _ _ _ hg
  obtain ⟨vp, vc, hvv, hov⟩ := hy.row (x, y)
  have hfm : FMapO W oa fa := by
    have h1 := hy.fm
    cases oa with
    | none => exact h1
    | some m => exact FMap.keep h1 (hB0.block m (FMap.lt h1))
  have hb0 := hy.blk.below hB0 hy.blk.lt
  have hov0 := hov.below hB0
  obtain ⟨ln, hln⟩ : ∃ ln, ln = (A (x, y)).length := ⟨_, rfl⟩
  rw [← hln] at hvv hov0 hn
  have HFM := hid hfm
  have HBL := hid hb0
  have HG0 := hid hG0
  have HB0 := hid hB0
  have HVV := hid hvv
  have HV0 := hid hov0
  have HLN := hid (fun (_ : Nat) => hln)
  clear hln hov hov0 hb0 hfm hB0 hG0 hvv hy h
  unfold C
  obtain ⟨xs, hxs⟩ : ∃ xs, xs = A (x, y) := ⟨_, rfl⟩
  rw [← hxs] at HV0 HLN ⊢
  clear hxs
  go_enter Try.func13, Try.ntmps13
  go_upto_region 3 with fail
  rw [← hW, ← hg]
  clear hW hg
  have k0 : ∀ q : Kw b oa g x y (.slice vp ln vc) W, q.w.cell? ⟨b, 0, none⟩ = some (.map oa) := fun q => q.c0
  have k2 : ∀ q : Kw b oa g x y (.slice vp ln vc) W, q.w.cell? ⟨g, 0, none⟩ = some (.int .i64 x) := fun q => q.g0
  have k3 : ∀ q : Kw b oa g x y (.slice vp ln vc) W, q.w.cell? ⟨g, 1, none⟩ = some (.int .i64 y) := fun q => q.g1
  have k4 : ∀ q : Kw b oa g x y (.slice vp ln vc) W, (Instr.lookup 52 (.map oa) (.agg #[.int .i64 x, .int .i64 y]) false).run Try.prog q.w = .ok (.slice vp ln vc) q.w := fun q => q.lk
  have key : ∀ Z, Below W.heap.size W Z → ∃ q : Kw b oa g x y (.slice vp ln vc) W, Z = q.w := fun Z hz => by
    have h1 := HBL.out.below hz HBL.out.lt
    have h2 := HG0.out.below hz HG0.out.lt
    have h3 : FMapO Z oa fa := by
      have h1 := HFM.out
      cases oa with
      | none => exact h1
      | some m => exact FMap.keep h1 (hz.block m (FMap.lt h1))
    refine ⟨⟨Z, h1.cell 0, h2.cell 0, h2.cell 1, ?_, hz⟩, rfl⟩
    have h4 := h3.look x y false
    rw [if_neg Bool.false_ne_true, HVV.out] at h4
    exact h4
  refine wp_region_calm (S := fun w' => ∃ q : Kw b oa g x y (.slice vp ln vc) W, w' = q.w) ((0, false) :: (1, false) :: (2, false) :: (3, false) :: (4, false) :: (5, false) :: (6, true) :: (7, false) :: []) rfl (by kernel_rfl) (by kernel_rfl) (by kernel_rfl) (key _ (Below.drewN (Below.refl _ _) 1)) ?_
  iterate 6 (refine plan_take rfl (fun K hK => ?_); go_simp; (refine ⟨_, fun _ => rfl, hK _ ?_⟩); clear hK K)
  refine plan_turn rfl (fun K hK => ?_)
  go_simp
  refine Calls.mono (clone_any xs vp ln vc W.drew (show IntsAt W.drew _ _ from HV0.out.ints.below (Below.drewN (Below.refl _ _) 1)) (HLN.out 0) hn) ?_
  rintro _ W2 ⟨p2, c2, rfl, ho2, hb2⟩
  have HB2 := hid ((Below.drewN (Below.refl W.heap.size W) 1).trans hb2)
  refine hK _ _ (key _ HB2.out) ?_
  clear hK K
  refine plan_take rfl (fun K hK => ?_)
  go_simp
  refine ⟨_, fun _ => rfl, hK _ ?_⟩
  clear hK K
  refine plan_done ⟨rfl, ?_⟩
  go_wp2
  go_ret
  exact ⟨p2, c2, rfl, ho2.mono HB0.out.size, HB0.out.trans (HB2.out.mono HB0.out.size)⟩
end Go.Proofs.Ytnilgnnlobiojaa
