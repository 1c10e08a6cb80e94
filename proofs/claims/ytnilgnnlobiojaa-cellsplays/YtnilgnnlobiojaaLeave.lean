/- leave 27: an ID is taken from its cell. -/
import Derived.Test.YtnilgnnlobiojaaKeep
import Derived.BigQuiet
namespace Go.Proofs.Ytnilgnnlobiojaa
open Go.RowKit
theorem zero40 (w : World) : (zeroValue 40).run Try.prog w = .ok (.slice none 0 0) w := Try.zeroValue40 w
/-- A world in which the index, the cell that is asked about and what is there are so. -/
structure Ky (b ma mw g : Nat) (x y : Int) (v : Value) where
  w : World
  c0 : w.cell? ⟨b, 0, none⟩ = some (.map (some ma))
  c1 : w.cell? ⟨b, 1, none⟩ = some (.map (some mw))
  g0 : w.cell? ⟨g, 0, none⟩ = some (.int .i64 x)
  g1 : w.cell? ⟨g, 1, none⟩ = some (.int .i64 y)
  lk : (Instr.lookup 52 (.map (some ma)) (.agg #[.int .i64 x, .int .i64 y]) false).run Try.prog w = .ok v w
/-- A world in which the index and the cell that is asked about are so. -/
structure Kz (b ma mw g : Nat) (x y : Int) where
  w : World
  c0 : w.cell? ⟨b, 0, none⟩ = some (.map (some ma))
  c1 : w.cell? ⟨b, 1, none⟩ = some (.map (some mw))
  g0 : w.cell? ⟨g, 0, none⟩ = some (.int .i64 x)
  g1 : w.cell? ⟨g, 1, none⟩ = some (.int .i64 y)
theorem kz {Z : World} {b base ma mw g n : Nat} {fa : Cl → Option Value} {A : Cl → List Int} {F : Int → Option Cl} {x y : Int} (h1 : Im Z b base ma mw fa A F n) (h2 : Blk Z g [.int .i64 x, .int .i64 y] 32) : ∃ q : Kz b ma mw g x y, Z = q.w :=
  ⟨⟨Z, h1.blk.cell 0, h1.blk.cell 1, h2.cell 0, h2.cell 1⟩, rfl⟩
theorem ky {Z : World} {b base ma mw g n : Nat} {fa : Cl → Option Value} {A : Cl → List Int} {F : Int → Option Cl} {x y : Int} {v : Value} (h1 : Im Z b base ma mw fa A F n) (h2 : Blk Z g [.int .i64 x, .int .i64 y] 32) (hv : (fa (x, y)).getD (.slice none 0 0) = v) : ∃ q : Ky b ma mw g x y v, Z = q.w :=
  ⟨⟨Z, h1.blk.cell 0, h1.blk.cell 1, h2.cell 0, h2.cell 1, by rw [h1.fm.look1 52 40 Try.underlying52 _ (zero40 _) x y, hv]⟩, rfl⟩
set_option maxRecDepth 20000 in
set_option maxHeartbeats 4000000 in
theorem leave_any (b base n ma mw : Nat) (fa : Cl → Option Value) (A : Cl → List Int) (F : Int → Option Cl) (i x y : Int) (w : World) (h : Im w b base ma mw fa A F n) (hF : F i = some (x, y)) (hA : i ∈ A (x, y)) (hs : (A (x, y)).Pairwise (· < ·)) (hn : (A (x, y)).length ≤ 1000000) (hbase : base ≤ w.heap.size) :
    Calls Try.prog 27 #[.pointer (some ⟨b, 0, none⟩), .int .i64 i, C x y] w fun e w' => e = .returned (.tuple #[]) ∧ (∃ fa', Im w' b base ma mw fa' (remA A i (x, y)) (remF F i) (n - 1) ∧ Own2 w fa fa') ∧ Below base w w' ∧ Kept2 fa w w' := by
  obtain ⟨v, hfv, hov⟩ := h.on (x, y) (List.ne_nil_of_mem hA)
  obtain ⟨vp, vc, hvf⟩ := hov.form
  obtain ⟨ln, hln⟩ : ∃ ln, ln = (A (x, y)).length := ⟨_, rfl⟩
  rw [← hln] at hvf
  have hl1 : (ln == 1) = (decide (ln = 1)) := rfl
  subst hvf
  obtain ⟨W, hW⟩ : ∃ W, W = w.alloc (.cells #[.int .i64 x, .int .i64 y] 32) := ⟨_, rfl⟩
  obtain ⟨g, hg⟩ : ∃ g, g = w.heap.size := ⟨_, rfl⟩
  have HB0 : Hid (Below w.heap.size w W) := by rw [hW]; exact (Below.refl _ _).alloc (Nat.le_refl _) _
  have HG0 : Hid (Blk W g [.int .i64 x, .int .i64 y] 32) := by rw [hW]; exact Blk.new' _ _ _ _ hg
  have HK0 : Hid (Kept2 fa w W) := Kept2.below HB0.out
  have HI0 := hid (h.below HB0.out)
  have HV0 := hid (hov.below HB0.out)
  have HGE := hid (fun (_ : Nat) => hg)
  have HBL := hid hbase
  have HHB := hid h.hb
  have HF := hid hF
  have HFV := hid hfv
  have HLN := hid (fun (_ : Nat) => hln)
  clear h hF hfv hov hbase hln hl1
  unfold C
  go_enter Try.func27, Try.ntmps27
  go_upto_region 1 with fail
  rw [← hW, ← hg]
  clear hW hg
  have c1 : W.cell? ⟨b, 1, none⟩ = some (.map (some mw)) := HI0.out.blk.cell 1
  go_upto_region 2 with (at_delete; (with_reducible refine wpL_delI 32 Try.underlying53 mw _ i ?_ ?_ HI0.out.im ?_); (rfl); (rfl); (intro W1 him ht))
  have HI1 : Hid (Im W1 b base ma mw fa A (remF F i) (n - 1)) := by
    refine hid (HI0.out.turnW ?_ ht)
    have e1 : (((F i).map cellV).isSome) = true := by rw [HF.out]; rfl
    rw [if_pos e1] at him
    have e2 : dropG (fun i => (F i).map cellV) i = fun j => (remF F i j).map cellV := by
      funext j
      unfold dropG remF
      by_cases hj : j = i
      · rw [if_pos hj, if_pos hj]; rfl
      · rw [if_neg hj, if_neg hj]
    rw [e2] at him
    exact him
  have HG1 : Hid (Blk W1 g [.int .i64 x, .int .i64 y] 32) := by
    have h1 := HG0.out
    have h2 := HI0.out.im.ne h1
    unfold Blk at h1 ⊢
    rw [ht.block g (Ne.symm h2)]; exact h1
  have HV1 : Hid (OwnI W1 base (.slice vp ln vc) (A (x, y))) := by
    obtain ⟨es, ck, l', _, hm, _⟩ := HI0.out.im
    exact HV0.out.stay fun k hk => ht.block k (own_map HV0.out hk hm)
  have HB1 : Hid (Below base w W1) := (HB0.out.mono HBL.out).trans (ht.below HHB.out.2.2)
  have HK1 := hid (HK0.out.trans (Kept2.turnI HI0.out.im ht))
  have HSZ1 : Hid (W1.heap.size = W.heap.size) := ht.size
  clear him ht c1 HG0 HI0 HV0
  simp only [Act.put]
  have HVV : Hid ((fa (x, y)).getD (.slice none 0 0) = .slice vp ln vc) := by rw [HFV.out]; rfl
  have k0 : ∀ q : Ky b ma mw g x y (.slice vp ln vc), q.w.cell? ⟨b, 0, none⟩ = some (.map (some ma)) := fun q => q.c0
  have k1 : ∀ q : Ky b ma mw g x y (.slice vp ln vc), q.w.cell? ⟨b, 1, none⟩ = some (.map (some mw)) := fun q => q.c1
  have k2 : ∀ q : Ky b ma mw g x y (.slice vp ln vc), q.w.cell? ⟨g, 0, none⟩ = some (.int .i64 x) := fun q => q.g0
  have k3 : ∀ q : Ky b ma mw g x y (.slice vp ln vc), q.w.cell? ⟨g, 1, none⟩ = some (.int .i64 y) := fun q => q.g1
  have k4 : ∀ q : Ky b ma mw g x y (.slice vp ln vc), (Instr.lookup 52 (.map (some ma)) (.agg #[.int .i64 x, .int .i64 y]) false).run Try.prog q.w = .ok (.slice vp ln vc) q.w := fun q => q.lk
  refine wp_region_calm (S := fun w' => ∃ q : Ky b ma mw g x y (.slice vp ln vc), w' = q.w) ((0, false) :: (1, false) :: (2, false) :: (3, false) :: (4, false) :: (5, false) :: (6, false) :: (7, false) :: []) rfl (by kernel_rfl) (by kernel_rfl) (by kernel_rfl) (ky (HI1.out.keep fun _ _ _ => rfl) HG1.out HVV.out) ?_
  iterate 8 (refine plan_take rfl (fun K hK => ?_); go_simp; (refine ⟨_, fun _ => rfl, hK _ ?_⟩); clear hK K)
  refine plan_done ⟨rfl, ?_⟩
  obtain ⟨W2, hW2⟩ : ∃ W2, W2 = W1.drew := ⟨_, rfl⟩
  have HI2 : Hid (Im W2 b base ma mw fa A (remF F i) (n - 1)) := by rw [hW2]; exact HI1.out.keep fun _ _ _ => rfl
  have HG2 : Hid (Blk W2 g [.int .i64 x, .int .i64 y] 32) := by rw [hW2]; exact HG1.out
  have HV2 : Hid (OwnI W2 base (.slice vp ln vc) (A (x, y))) := by rw [hW2]; exact HV1.out
  have HK2 : Hid (Kept2 fa w W2) := by rw [hW2]; exact HK1.out
  have HB2 : Hid (Below base w W2) := by rw [hW2]; exact Below.drewN HB1.out 1
  rw [← hW2]
  clear hW2 HI1 HG1 HV1 HB1 HSZ1
  have z0 : ∀ q : Kz b ma mw g x y, q.w.cell? ⟨b, 0, none⟩ = some (.map (some ma)) := fun q => q.c0
  have z1 : ∀ q : Kz b ma mw g x y, q.w.cell? ⟨b, 1, none⟩ = some (.map (some mw)) := fun q => q.c1
  have z2 : ∀ q : Kz b ma mw g x y, q.w.cell? ⟨g, 0, none⟩ = some (.int .i64 x) := fun q => q.g0
  have z3 : ∀ q : Kz b ma mw g x y, q.w.cell? ⟨g, 1, none⟩ = some (.int .i64 y) := fun q => q.g1
  by_cases hl : ln = 1
  · have hb : (((ln : Nat) : Int) == 1) = true := by rw [hl]; rfl
    have HONE : Hid ((A (x, y)).filter (· != i) = []) := by
      have h1 := HLN.out 0
      rw [hl] at h1
      obtain ⟨a, ha⟩ := List.length_eq_one_iff.1 h1.symm
      have hia : i = a := by simpa [ha] using hA
      rw [ha, hia]
      have : (a != a) = false := by simp
      unfold Hid
      rw [List.filter_cons, this]; rfl
    go_upto_region 3 with fail
    refine wp_region_calm (S := fun w' => ∃ q : Kz b ma mw g x y, w' = q.w) ((0, false) :: (1, false) :: (2, false) :: (3, false) :: (4, false) :: (5, true) :: []) rfl (by kernel_rfl) (by kernel_rfl) (by kernel_rfl) (kz (HI2.out.keep fun _ _ _ => rfl) HG2.out) ?_
    iterate 5 (refine plan_take rfl (fun K hK => ?_); go_simp; (refine ⟨_, fun _ => rfl, hK _ ?_⟩); clear hK K)
    refine plan_turn rfl (fun K hK => ?_)
    rw [if_pos (by rfl)]
    refine turn_of_list (ops := #[]) rfl ?_
    refine wpL_del 40 Try.underlying52 ma fa x y rfl rfl (HI2.out.fm.keep rfl) ?_
    intro W3 hf3 ht3
    have HI3 := hid (Im.drop (w := W2.drew) (x, y) (HI2.out.keep fun _ _ _ => rfl) hf3 ht3)
    have HG3 : Blk W3 g [.int .i64 x, .int .i64 y] 32 := by
      have h1 := HG2.out
      have h2 := HI2.out.fm.ne h1
      unfold Blk at h1 ⊢
      rw [ht3.block g (Ne.symm h2)]; exact h1
    have HK3 := hid (HK2.out.trans (Kept2.turnF HI2.out.fm ht3.undrew))
    have HB3 := hid (Below.trans HB2.out (ht3.undrew.below HHB.out.2.1))
    refine ⟨rfl, ?_⟩
    refine hK _ _ (kz HI3.out HG3) ?_
    clear hK K
    refine plan_done ⟨rfl, ?_⟩
    simp only [Act.put]
    go_wp2
    have hfin : ∃ fa', Im W3 b base ma mw fa' (remA A i (x, y)) (remF F i) (n - 1) ∧ Own2 w fa fa' := by
      refine ⟨dropF fa (x, y), ?_, Own2.drop _ _ _⟩
      unfold remA
      rw [HONE.out]
      exact HI3.out
    first
      | go_end0
      | refine bodyPost_ret (results_none Try.results27 _ _ _) rfl ?_
    exact ⟨rfl, hfin, HB3.out, HK3.out⟩
  · have hb : (((ln : Nat) : Int) == 1) = false := by simp; omega
    go_upto_region 4 with fail
    refine wp_region_calm (S := fun w' => ∃ q : Ky b ma mw g x y (.slice vp ln vc), w' = q.w) ((0, false) :: (1, false) :: (2, false) :: (3, false) :: (4, false) :: (5, false) :: (6, false) :: (7, true) :: (8, false) :: (9, false) :: (10, false) :: (11, false) :: (12, false) :: []) rfl (by kernel_rfl) (by kernel_rfl) (by kernel_rfl) (ky (HI2.out.keep fun _ _ _ => rfl) HG2.out HVV.out) ?_
    iterate 7 (refine plan_take rfl (fun K hK => ?_); go_simp; (refine ⟨_, fun _ => rfl, hK _ ?_⟩); clear hK K)
    refine plan_turn rfl (fun K hK => ?_)
    go_simp
    refine Calls.mono (search_any base (.slice vp ln vc) (A (x, y)) i _ (show OwnI W2.drew base _ _ from HV2.out) hs hn) ?_
    rintro _ _ ⟨rfl, nd, rfl⟩
    refine hK _ _ (ky (HI2.out.keep fun _ _ _ => rfl) HG2.out HVV.out) ?_
    clear hK K
    iterate 5 (refine plan_take rfl (fun K hK => ?_); go_simp; (refine ⟨_, fun _ => rfl, hK _ ?_⟩); clear hK K)
    refine plan_done ⟨rfl, ?_⟩
    obtain ⟨pl, hpl⟩ : ∃ pl, pl = List.countP (fun z => decide (z < i)) (A (x, y)) := ⟨_, rfl⟩
    rw [← hpl]
    obtain ⟨W3, hW3⟩ : ∃ W3, W3 = W2.drew.drewN nd := ⟨_, rfl⟩
    have HI3 : Hid (Im W3 b base ma mw fa A (remF F i) (n - 1)) := by rw [hW3]; exact HI2.out.keep fun _ _ _ => rfl
    have HG3 : Hid (Blk W3 g [.int .i64 x, .int .i64 y] 32) := by rw [hW3]; exact HG2.out
    have HV3 : Hid (OwnI W3 base (.slice vp ln vc) (A (x, y))) := by rw [hW3]; exact HV2.out
    have HS3 : Hid (w.heap.size ≤ W3.heap.size) := by rw [hW3]; exact HB2.out.size
    have HK3 : Hid (Kept2 fa w W3) := by rw [hW3]; exact HK2.out
    have HB3 : Hid (Below base w W3) := by rw [hW3]; exact Below.drewN (Below.drewN HB2.out 1) nd
    rw [← hW3]
    obtain ⟨hpl1, hpl2⟩ := rem_take (A (x, y)) i hs hA
    have hpl0 : plc (A (x, y)) i = pl := hpl.symm
    rw [hpl0] at hpl1 hpl2
    have HLE := hid hpl1
    have HRM := hid hpl2
    have HNE : Hid ((A (x, y)).filter (· != i) ≠ []) := by
      intro h0
      have h1 := HLN.out 0
      have h2 := hpl2.trans h0
      have h3 : ((A (x, y)).take pl ++ (A (x, y)).drop (pl + 1)).length = 0 := by rw [h2]; rfl
      simp only [List.length_append, List.length_take, List.length_drop] at h3
      omega
    have hwr : IntKind.i64.wrap ((pl : Int) + 1) = (pl : Int) + 1 := by rw [IntKind.wrap_i64]; omega
    clear hW3 hpl hpl0 hpl1 hpl2 HI2 HG2 HV2 HB2 k0 k1 k2 k3 k4 hs hA
    go_upto_region 5 with fail
    refine wp_region_calm (S := fun w' => ∃ q : Kz b ma mw g x y, w' = q.w) ((0, false) :: (1, false) :: (2, false) :: (3, false) :: (4, false) :: (5, false) :: (6, false) :: (7, false) :: (8, false) :: (9, false) :: (11, false) :: (12, false) :: (13, false) :: (10, true) :: (14, true) :: (15, true) :: []) rfl (by kernel_rfl) (by kernel_rfl) (by kernel_rfl) (kz (HI3.out.keep fun _ _ _ => rfl) HG3.out) ?_
    obtain ⟨W4, hW4⟩ : ∃ W4, W4 = W3.drew := ⟨_, rfl⟩
    have HI4 : Hid (Im W4 b base ma mw fa A (remF F i) (n - 1)) := by rw [hW4]; exact HI3.out.keep fun _ _ _ => rfl
    have HG4 : Hid (Blk W4 g [.int .i64 x, .int .i64 y] 32) := by rw [hW4]; exact HG3.out
    have HV4 : Hid (OwnI W4 base (.slice vp ln vc) (A (x, y))) := by rw [hW4]; exact HV3.out
    have HS4 : Hid (w.heap.size ≤ W4.heap.size) := by rw [hW4]; exact HS3.out
    have HK4 : Hid (Kept2 fa w W4) := by rw [hW4]; exact HK3.out
    have HB4 : Hid (Below base w W4) := by rw [hW4]; exact Below.drewN HB3.out 1
    rw [← hW4]
    clear hW4 HI3 HG3 HV3 HB3
    iterate 13 (refine plan_take rfl (fun K hK => ?_); go_simp; (refine ⟨_, fun _ => rfl, hK _ ?_⟩); clear hK K)
    refine plan_turn rfl (fun K hK => ?_)
    rw [if_pos (by rfl)]
    refine turn_of_list (ops := #[]) rfl ?_
    refine wpL_look1 40 Try.underlying52 (.slice none 0 0) zero40 ma fa x y rfl rfl HI4.out.fm ?_
    rw [HVV.out]
    refine ⟨rfl, ?_⟩
    refine hK _ _ (kz HI4.out HG4.out) ?_
    clear hK K
    refine plan_turn rfl (fun K hK => ?_)
    go_simp
    refine Calls.mono (delete_any base (.slice vp ln vc) (A (x, y)) pl W4 HV4.out HLE.out hn) ?_
    rintro _ W5 ⟨v5, rfl, ho5, hg5⟩
    rw [HRM.out] at ho5
    have hvb : ∀ k, (Value.slice vp ln vc).ownBlock = some k → k ≠ b ∧ k ≠ ma ∧ k ≠ mw ∧ k ≠ g := fun k hk => by
      obtain ⟨es, ck, l', hm, _⟩ := HI4.out.fm
      obtain ⟨es2, ck2, l2, _, hm2, _⟩ := HI4.out.im
      exact ⟨own_blk HV4.out hk HI4.out.blk (by decide), own_map HV4.out hk hm, own_map HV4.out hk hm2, own_blk HV4.out hk HG4.out (by decide)⟩
    have hB5 : Blk W5 b [.map (some ma), .map (some mw)] 55 := hg5.blk HI4.out.blk fun e => (hvb b e).1 rfl
    have hG5 : Blk W5 g [.int .i64 x, .int .i64 y] 32 := hg5.blk HG4.out fun e => (hvb g e).2.2.2 rfl
    have hM5 : FMap W5 ma fa := HI4.out.fm.keep (hg5.block ma HI4.out.fm.lt fun e => (hvb ma e).2.1 rfl)
    refine hK _ _ ⟨⟨W5, hB5.cell 0, hB5.cell 1, hG5.cell 0, hG5.cell 1⟩, rfl⟩ ?_
    clear hK K
    refine plan_turn rfl (fun K hK => ?_)
    rw [if_pos (by rfl)]
    refine turn_of_list (ops := #[]) rfl ?_
    refine wpL_upd 40 Try.underlying52 ma fa x y v5 rfl rfl rfl hM5 ?_
    intro W6 hf6 ht6
    have HI6 := hid (HI4.out.put HV4.out (Or.inl HFV.out) hg5 ho5 HNE.out hf6 ht6)
    have HG6 : Blk W6 g [.int .i64 x, .int .i64 y] 32 := by
      have h1 := hG5
      have h2 := hM5.ne h1
      unfold Blk at h1 ⊢
      rw [ht6.block g (Ne.symm h2)]; exact h1
    have HK6 := hid ((HK4.out.trans (Kept2.gro (Or.inl HFV.out) hg5)).trans (Kept2.turnF hM5 ht6))
    have HW6 : Hid (Own2 w fa (putF fa (x, y) v5)) := Own2.put (Or.inl HFV.out) hg5 HS4.out
    have HB6 := hid ((HB4.out.trans (hg5.below HV4.out (Nat.le_trans HBL.out HB4.out.size))).trans (ht6.below HHB.out.2.1))
    refine ⟨rfl, ?_⟩
    refine hK _ _ (kz HI6.out HG6) ?_
    clear hK K
    refine plan_done ⟨rfl, ?_⟩
    clear hg5 ho5 hvb hB5 hG5 hM5 hf6 ht6 HG6
    simp only [Act.put]
    go_wp2
    first
      | go_end0
      | refine bodyPost_ret (results_none Try.results27 _ _ _) rfl ?_
    exact ⟨rfl, ⟨_, HI6.out, HW6.out⟩, HB6.out, HK6.out⟩
end Go.Proofs.Ytnilgnnlobiojaa
