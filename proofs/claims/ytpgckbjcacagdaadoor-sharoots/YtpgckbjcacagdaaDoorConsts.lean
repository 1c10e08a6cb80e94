/- What Constants answers: the standard's numbers. -/
import Derived.Test.YtpgckbjcacagdaaDoorRoot
import Derived.Test.YtpgckbjcacagdaaDoorPrimes
import Derived.Test.YtpgckbjcacagdaaDoorRootsWalk
namespace Go.Proofs.YtpgckbjcacagdaaDoor
open Go.RowKit
attribute [local go_sem] match_U run_cells_U run_store_U
attribute [local go_sem ↓] storeAt_U
attribute [local go_sem ↓] zv44 zv37
/-- The whole roots of the first primes, with 32 bits behind the point. -/
def R2 : List Nat := [6074000999, 7439101573, 9603838834, 11363415354, 14244795007, 15485724812, 17708603819, 18721328409]
def R3 : List Nat := [5411319704, 6194414737, 7344290767, 8215976869, 9551921755, 10098905585, 11043570340, 11460697813, 12214315672, 13195500289, 13492127166, 14311783875, 14809980276, 15046980094, 15499789991, 16133124468, 16720292289, 16907126662, 17444216262, 17784676812, 17950125167, 18429019306, 18734950876, 19175934170, 19734090066, 20001703533, 20132865992, 20390182855, 20516441075, 20764397895, 21588763473, 21813078375, 22141143685, 22248366392, 22769593852, 22871018771, 23170020180, 23461497531, 23651862830, 23931792517, 24205322401, 24295138891, 24734567280, 24820601251, 24990902297, 25075189284, 25569408389, 26045227120, 26200031510, 26276752392, 26428864332, 26653801653, 26727943347, 27092625994, 27306805839, 27517677555, 27725365998, 27793908591, 27997534228, 28131656200, 28198240250, 28526537963, 28973835255, 29099129074]
theorem r2_ok : ∀ i : Fin 8, (R2.getD i.val 0) ^ 2 ≤ 65536 ^ 4 * PL.getD i.val 0 ∧ 65536 ^ 4 * PL.getD i.val 0 < (R2.getD i.val 0 + 1) ^ 2 ∧ BitVec.ofNat 32 (R2.getD i.val 0) = H0.list.getD i.val 0 := by decide +kernel
theorem r3_ok : ∀ i : Fin 64, (R3.getD i.val 0) ^ 3 ≤ 65536 ^ 6 * PL.getD i.val 0 ∧ 65536 ^ 6 * PL.getD i.val 0 < (R3.getD i.val 0 + 1) ^ 3 ∧ BitVec.ofNat 32 (R3.getD i.val 0) = KW.getD i.val 0 := by decide +kernel
theorem pl_ok : ∀ i : Fin 64, PL.getD i.val 0 < 65536 ∧ PL[i.val]? = some (PL.getD i.val 0) := by decide +kernel
/-- A list of n words when k are written. -/
def outU (l : List Word) (k : Nat) : List Word := l.take k ++ List.replicate (l.length - k) 0
theorem outU_length (l : List Word) (k : Nat) (hk : k ≤ l.length) : (outU l k).length = l.length := by simp [outU]; omega
theorem outU_set (l : List Word) (k : Nat) (hk : k < l.length) : (outU l k).set k (l.getD k 0) = outU l (k + 1) := by
  unfold outU
  have h1 : (l.take k).length = k := by rw [List.length_take]; omega
  rw [List.take_add_one, show l.length - k = (l.length - (k + 1)) + 1 by omega, List.replicate_succ]
  conv => lhs; arg 2; rw [← h1]
  rw [List.set_append_right _ _ (Nat.le_refl _), Nat.sub_self, List.set_cons_zero, List.append_assoc]
  simp [hk]
theorem outU_all (l : List Word) : outU l l.length = l := by simp [outU]
theorem outU_zero (n : Nat) (l : List Word) (hl : l.length = n) : (outU l 0).map U = zU n := by simp [outU, zU, hl]
/-- The four arrays and the primes, when i rounds are done. -/
structure Made (w : World) (B g : Nat) (m i : Nat) (wr : World) : Prop where
  a : Blk wr B (zU 8) 37
  c : Blk wr (B + 1) (zU 64) 44
  h : Blk wr (B + 2) ((outU H0.list m).map U) 37
  k : Blk wr (B + 3) ((outU KW i).map U) 44
  l : ∀ (j x : Nat), PL[j]? = some x → wr.cell? ⟨g, j, none⟩ = some (.int .u64 (x : Int))
  g4 : B + 4 ≤ g
  be : Below B w wr
theorem Made.below {w : World} {B g m i : Nat} {wr wr' : World} (h : Made w B g m i wr) (hb : Below wr.heap.size wr wr') : Made w B g m i wr' := by
  have hB : B ≤ wr.heap.size := Nat.le_of_lt h.a.lt
  refine ⟨h.a.below hb h.a.lt, h.c.below hb h.c.lt, h.h.below hb h.h.lt, h.k.below hb h.k.lt, fun j x hx => ?_, h.g4, h.be.trans (hb.mono hB)⟩
  rw [hb.cell (p := ⟨g, j, none⟩) (lt_of_cell (h.l j x hx))]
  exact h.l j x hx
theorem Made.seth {w : World} {B g m i : Nat} {wr : World} (h : Made w B g m i wr) (hm : m < 8) : Made w B g (m + 1) i (wr.setCell ⟨B + 2, m, none⟩ (U (H0.list.getD m 0))) := by
  refine ⟨h.a.set_ne _ (by show B ≠ B + 2; omega) _, h.c.set_ne _ (by show B + 1 ≠ B + 2; omega) _, ?_, h.k.set_ne _ (by show B + 3 ≠ B + 2; omega) _, fun j x hx => ?_, h.g4, h.be.setCell (by show B ≤ B + 2; omega) _⟩
  · have := h.h.set m (U (H0.list.getD m 0))
    rw [set_mapU, outU_set _ _ (by exact hm)] at this
    exact this
  · exact keepCell (h.l j x hx) (by have := h.g4; omega) _ _
theorem Made.setk {w : World} {B g m i : Nat} {wr : World} (h : Made w B g m i wr) (hi : i < 64) : Made w B g m (i + 1) (wr.setCell ⟨B + 3, i, none⟩ (U (KW.getD i 0))) := by
  refine ⟨h.a.set_ne _ (by show B ≠ B + 3; omega) _, h.c.set_ne _ (by show B + 1 ≠ B + 3; omega) _, h.h.set_ne _ (by show B + 2 ≠ B + 3; omega) _, ?_, fun j x hx => ?_, h.g4, h.be.setCell (by show B ≤ B + 3; omega) _⟩
  · have := h.k.set i (U (KW.getD i 0))
    rw [set_mapU, outU_set _ _ (by exact hi)] at this
    exact this
  · exact keepCell (h.l j x hx) (by have := h.g4; omega) _ _
theorem PL_length : PL.length = 64 := rfl
theorem PL_ne : PL ≠ [] := by decide
set_option maxRecDepth 100000 in
set_option maxHeartbeats 4000000 in
theorem consts_any : ConstsOk := by
  intro w
  have hpr : Hid (∀ W, Calls Tryd.prog 31 #[.int .i64 64] W fun e w' => PrimesOk W e w') := fun W => primes_any W
  have hr2 : Hid (∀ (i x : Nat) (W : World), i < 8 → PL[i]? = some x → Calls Tryd.prog 32 #[.int .u64 (x : Int), .int .i64 2] W fun e w' => e = .returned (U (H0.list.getD i 0)) ∧ Below W.heap.size W w') := fun i x W hi hx => by
    obtain ⟨h1, h2, h3⟩ := r2_ok ⟨i, hi⟩
    obtain ⟨h4, h5⟩ := pl_ok ⟨i, by omega⟩
    have hxe : x = PL.getD i 0 := by have h5' : PL[i]? = some (PL.getD i 0) := h5; rw [h5'] at hx; exact (Option.some.inj hx).symm
    have := root2_any x _ (by rw [hxe]; exact h4) (by rw [hxe]; exact h1) (by rw [hxe]; exact h2) W
    rw [h3] at this
    exact this
  have hr3 : Hid (∀ (i x : Nat) (W : World), i < 64 → PL[i]? = some x → Calls Tryd.prog 32 #[.int .u64 (x : Int), .int .i64 3] W fun e w' => e = .returned (U (KW.getD i 0)) ∧ Below W.heap.size W w') := fun i x W hi hx => by
    obtain ⟨h1, h2, h3⟩ := r3_ok ⟨i, hi⟩
    obtain ⟨h4, h5⟩ := pl_ok ⟨i, hi⟩
    have hxe : x = PL.getD i 0 := by have h5' : PL[i]? = some (PL.getD i 0) := h5; rw [h5'] at hx; exact (Option.some.inj hx).symm
    have := root3_any x _ (by rw [hxe]; exact h4) (by rw [hxe]; exact h1) (by rw [hxe]; exact h2) W
    rw [h3] at this
    exact this
  have HM0 : Hid (∀ g w1, Below ((((w.alloc (.cells (zU 8).toArray 37)).alloc (.cells (zU 64).toArray 44)).alloc (.cells (zU 8).toArray 37)).alloc (.cells (zU 64).toArray 44)).heap.size ((((w.alloc (.cells (zU 8).toArray 37)).alloc (.cells (zU 64).toArray 44)).alloc (.cells (zU 8).toArray 37)).alloc (.cells (zU 64).toArray 44)) w1 → (∀ (j x : Nat), PL[j]? = some x → w1.cell? ⟨g, j, none⟩ = some (.int .u64 (x : Int))) → w.heap.size + 4 ≤ g → Made w w.heap.size g 0 0 w1) := by
    intro g w1 hb hl hg
    have e8 : (outU H0.list 0).map U = zU 8 := outU_zero 8 _ rfl
    have e64 : (outU KW 0).map U = zU 64 := outU_zero 64 _ rfl
    refine ⟨((((Blk.new _ _ _).alloc _).alloc _).alloc _).below hb (by simp; omega), (((Blk.new' _ _ _ _ (by simp)).alloc _).alloc _).below hb (by simp), ?_, ?_, hl, hg, (((((Below.refl _ _).alloc (Nat.le_refl _) _).alloc (by simp) _).alloc (by simp; omega) _).alloc (by simp; omega) _).trans (hb.mono (by simp; omega))⟩
    · rw [e8]; exact ((Blk.new' _ _ _ _ (by simp)).alloc _).below hb (by simp)
    · rw [e64]; exact (Blk.new' _ _ _ _ (by simp)).below hb (by simp)
  go_enter Tryd.func19, Tryd.ntmps19
  go_wp2_with fail
  refine Calls.mono (hpr.out _) ?_
  rintro e w1 ⟨p, cap, rfl, hO, hb1⟩
  obtain ⟨g, rfl, hcell⟩ := hO.cells PL_ne
  have hgb := (hO.block g rfl).1
  have HM : Hid (Made w w.heap.size g 0 0 w1) := HM0.out g w1 hb1 hcell (by simpa using hgb)
  clear HM0 hpr hO hb1 hcell hgb
  obtain ⟨B, hB⟩ : ∃ B, B = w.heap.size := ⟨_, rfl⟩
  rw [← hB] at HM
  simp only [← hB]
  have HB : Hid (B = w.heap.size) := hB
  clear hB
  go_wp2_with fail
  go_loopw [5] (fun iv wr => ∃ i m : Nat, iv = .int .i64 (i : Nat) ∧ i ≤ 64 ∧ m = min i 8 ∧ Hid (Made w B g m i wr)) (fun iv _ => 64 - (intOf iv).toNat)
  case atStart => exact ⟨0, 0, rfl, by omega, by omega, HM⟩
  case round =>
    clear HM
    obtain ⟨i, m, rfl, hi, hm, hM⟩ := hrel
    have w1' : IntKind.i64.wrap ((i : Int) + 1) = (i : Int) + 1 := by rw [IntKind.wrap_i64]; omega
    by_cases hlt : i < 64
    · obtain ⟨x, hx⟩ : ∃ x, PL[i]? = some x := ⟨_, List.getElem?_eq_getElem (by rw [PL_length]; exact hlt)⟩
      have c0 := hM.out.l i x hx
      have e0 : (0 : Int) ≤ (i : Int) := by omega
      have e1 : (i : Int) < 64 := by omega
      have H3 : Hid (∀ W, Calls Tryd.prog 32 #[.int .u64 (x : Int), .int .i64 3] W fun e w' => e = .returned (U (KW.getD i 0)) ∧ Below W.heap.size W w') := fun W => hr3.out i x W hlt hx
      have hS2 : Hid (i < 8 → ∀ w2, Made w B g i i w2 → ∀ b, b = B + 2 → Made w B g (i + 1) i (w2.setCell ⟨b, i, none⟩ (U (H0.list.getD i 0)))) := fun h8 w2 h b hb => by subst hb; exact h.seth h8
      have hS3 : Hid (∀ w2 m, Made w B g m i w2 → ∀ b, b = B + 3 → Made w B g m (i + 1) (w2.setCell ⟨b, i, none⟩ (U (KW.getD i 0)))) := fun w2 m h b hb => by subst hb; exact h.setk hlt
      have HC2 : Hid (i < 8 → ∀ w2, Made w B g i i w2 → ∃ v, w2.cell? ⟨B + 2, i, none⟩ = some v) := fun h8 w2 h => by
        rw [h.h.cell]
        exact ⟨_, List.getElem?_eq_getElem (by rw [List.length_map, outU_length _ _ (by exact Nat.le_of_lt h8)]; exact h8)⟩
      have HC3 : Hid (∀ w2 m, Made w B g m i w2 → ∃ v, w2.cell? ⟨B + 3, i, none⟩ = some v) := fun w2 m h => by
        rw [h.k.cell]
        exact ⟨_, List.getElem?_eq_getElem (by rw [List.length_map, outU_length _ _ (by exact Nat.le_of_lt hlt)]; exact hlt)⟩
      have HL : Hid (∀ w2 m j, Made w B g m j w2 → w2.cell? ⟨g, i, none⟩ = some (.int .u64 (x : Int))) := fun w2 m j h => h.l i x hx
      by_cases h8 : i < 8
      · have e8 : (i : Int) < 8 := by omega
        have H2 : Hid (∀ W, Calls Tryd.prog 32 #[.int .u64 (x : Int), .int .i64 2] W fun e w' => e = .returned (U (H0.list.getD i 0)) ∧ Below W.heap.size W w') := fun W => hr2.out i x W h8 hx
        have hmi : m = i := by omega
        rw [hmi] at hM
        clear hr2 hr3 hx hm hmi
        generalize H0.list.getD i 0 = y2 at *
        generalize KW.getD i 0 = y3 at *
        have hM' := hM.out
        clear hM
        go_wp2_with fail
        refine Calls.mono (H2.out _) ?_
        rintro e w2 ⟨rfl, hb2⟩
        have hM2 := hM'.below hb2
        have f2 := hM2.h.frozen i
        obtain ⟨v2, c2⟩ := HC2.out h8 _ hM2
        have HM3 := hS2.out h8 _ hM2
        have HM3' := HM3 _ rfl
        have c3 := HL.out _ _ _ HM3'
        clear hM' H2 hb2 hM2 c0 HM3 hS2 HC2
        go_wp2_with fail
        refine Calls.mono (H3.out _) ?_
        rintro e w4 ⟨rfl, hb4⟩
        have hM4 := HM3'.below hb4
        have f4 := hM4.k.frozen i
        obtain ⟨v4, c4⟩ := HC3.out _ _ hM4
        have HM5 := hS3.out _ _ hM4
        clear hb4 hM4
        go_wp2_with fail
        go_roundw
        case rel => exact ⟨i + 1, i + 1, by go_num, by omega, by omega, HM5 _ rfl⟩
        case measure => simp [intOf]; omega
      · have e8 : ¬ (i : Int) < 8 := by omega
        have hm8 : m = 8 := by omega
        subst hm8
        clear hr2 hr3 hx hm hS2 HC2
        generalize KW.getD i 0 = y3 at *
        have hM' := hM.out
        clear hM
        go_wp2_with fail
        refine Calls.mono (H3.out _) ?_
        rintro e w4 ⟨rfl, hb4⟩
        have hM4 := hM'.below hb4
        have f4 := hM4.k.frozen i
        obtain ⟨v4, c4⟩ := HC3.out _ _ hM4
        have HM5 := hS3.out _ _ hM4
        clear hb4 hM4
        go_wp2_with fail
        go_roundw
        case rel => exact ⟨i + 1, 8, by go_num, by omega, by omega, HM5 _ rfl⟩
        case measure => simp [intOf]; omega
    · have hi64 : i = 64 := by omega
      have hm8 : m = 8 := by omega
      subst hi64 hm8
      have e1 : ¬ ((64 : Nat) : Int) < 64 := by omega
      have hM' := hM.out
      have hBA := hM'.a
      have hBC := hM'.c
      have hBH : Blk wr (B + 2) (H0.list.map U) 37 := by
        have := hM'.h
        rw [show outU H0.list 8 = H0.list from outU_all _] at this
        exact this
      have hBK : Blk wr (B + 3) (KW.map U) 44 := by
        have := hM'.k
        rw [show outU KW 64 = KW from outU_all _] at this
        exact this
      have hbe := hM'.be
      clear hM hM' hr2 hr3 hm hi hlt w1' e1
      obtain ⟨A, hA⟩ : ∃ A : List Value, A = H0.list.map U := ⟨_, rfl⟩
      obtain ⟨C, hC⟩ : ∃ C : List Value, C = KW.map U := ⟨_, rfl⟩
      have hAl : A.length = 8 := by rw [hA]; rfl
      have hCl : C.length = 64 := by rw [hC]; rfl
      have HA : Hid (∀ X, X = H0.list.map U → X = A) := by rintro X rfl; rw [hA]
      have HC : Hid (∀ X, X = KW.map U → X = C) := by rintro X rfl; rw [hC]
      have hoA : Hid (∀ v ∈ A, v.oneCell' = true) := by rw [hA]; exact mapU_one _
      have hoC : Hid (∀ v ∈ C, v.oneCell' = true) := by rw [hC]; exact mapU_one _
      have hi37 : (Tryd.prog.info? 37).map (·.size) = some A.length := by rw [hAl]; exact size37
      have hi44 : (Tryd.prog.info? 44).map (·.size) = some C.length := by rw [hCl]; exact size44
      rw [← hA] at hBH
      rw [← hC] at hBK
      clear hA hC
      have tA := hBA.drew.there 0 A.length (by rw [hAl, zU_length]; omega)
      have sA := Blk.setCells A 0 hBA.drew (by rw [hAl, zU_length]; omega)
      rw [show over (zU 8) 0 A = A by simp [over, zU, hAl]] at sA
      have cA := hBC.drew.setCells_ne B (by omega) 0 A
      have kA := hBK.drew.setCells_ne B (by omega) 0 A
      have bA := Below.setCells hbe.drew (b := B) (Nat.le_refl _) 0 A
      have tC := cA.there 0 C.length (by rw [hCl, zU_length]; omega)
      have sC := Blk.setCells C 0 cA (by rw [hCl, zU_length]; omega)
      rw [show over (zU 64) 0 C = C by simp [over, zU, hCl]] at sC
      have sA2 := sA.setCells_ne (B + 1) (by omega) 0 C
      have bC := Below.setCells bA (b := B + 1) (by omega) 0 C
      go_upto_region 10 with (fail)
      refine wp_region_noPanic ?_
      refine wp_region_any (by kernel_rfl) ?_
      change wpAny _ _ _ _ _ _ _ (World.drew _)
      refine wpAny_ready (rs := [0, 1]) (by kernel_rfl) (by simp) ?_
      refine ready_load 37 (B + 2) 0 A _ (by exact rfl) (by go_simp) hBH.drew.range Tryd.underlying37 rfl hi37 ?_ ?_
      · simp only [Act.put, List.setIfInBounds_toArray, List.set_cons_zero, List.set_cons_succ]
        refine wpAny_ready (rs := [1, 2]) (by kernel_rfl) (by simp) ?_
        refine ready_load 44 (B + 3) 0 C _ (by exact rfl) (by go_simp) hBK.drew.range Tryd.underlying44 rfl hi44 ?_ ?_
        · simp only [Act.put, List.setIfInBounds_toArray, List.set_cons_zero, List.set_cons_succ]
          refine wpAny_ready (rs := [2]) (by kernel_rfl) (by simp) ?_
          refine ready_store 37 B 0 A (by exact rfl) (by go_simp) (by go_simp) tA hi37 hoA.out ?_ AllReady.nil
          simp only [Act.put]
          refine wpAny_ready (rs := [3]) (by kernel_rfl) (by simp) ?_
          refine ready_store 44 (B + 1) 0 C (by exact rfl) (by go_simp) (by go_simp) tC hi44 hoC.out ?_ AllReady.nil
          simp only [Act.put]
          refine wpAny_done (by kernel_rfl) (NoPanic.normal ?_) _
          go_wp2
          exact bodyPost_ret (results_arrays Tryd.results19 rfl rfl sA2 sC Tryd.underlying37 rfl hi37 Tryd.underlying44 rfl hi44) rfl ⟨by rw [HA.out _ rfl, HC.out _ rfl], by rw [← HB.out]; exact bC⟩
        · refine ready_store 37 B 0 A (by exact rfl) (by go_simp) (by go_simp) tA hi37 hoA.out ?_ AllReady.nil
          simp only [Act.put]
          refine wpAny_ready (rs := [1]) (by kernel_rfl) (by simp) ?_
          refine ready_load 44 (B + 3) 0 C _ (by exact rfl) (by go_simp) kA.range Tryd.underlying44 rfl hi44 ?_ AllReady.nil
          simp only [Act.put, List.setIfInBounds_toArray, List.set_cons_zero, List.set_cons_succ]
          refine wpAny_ready (rs := [3]) (by kernel_rfl) (by simp) ?_
          refine ready_store 44 (B + 1) 0 C (by exact rfl) (by go_simp) (by go_simp) tC hi44 hoC.out ?_ AllReady.nil
          simp only [Act.put]
          refine wpAny_done (by kernel_rfl) (NoPanic.normal ?_) _
          go_wp2
          exact bodyPost_ret (results_arrays Tryd.results19 rfl rfl sA2 sC Tryd.underlying37 rfl hi37 Tryd.underlying44 rfl hi44) rfl ⟨by rw [HA.out _ rfl, HC.out _ rfl], by rw [← HB.out]; exact bC⟩
      · refine ready_load 44 (B + 3) 0 C _ (by exact rfl) (by go_simp) hBK.drew.range Tryd.underlying44 rfl hi44 ?_ AllReady.nil
        simp only [Act.put, List.setIfInBounds_toArray, List.set_cons_zero, List.set_cons_succ]
        refine wpAny_ready (rs := [0]) (by kernel_rfl) (by simp) ?_
        refine ready_load 37 (B + 2) 0 A _ (by exact rfl) (by go_simp) hBH.drew.range Tryd.underlying37 rfl hi37 ?_ AllReady.nil
        simp only [Act.put, List.setIfInBounds_toArray, List.set_cons_zero, List.set_cons_succ]
        refine wpAny_ready (rs := [2]) (by kernel_rfl) (by simp) ?_
        refine ready_store 37 B 0 A (by exact rfl) (by go_simp) (by go_simp) tA hi37 hoA.out ?_ AllReady.nil
        simp only [Act.put]
        refine wpAny_ready (rs := [3]) (by kernel_rfl) (by simp) ?_
        refine ready_store 44 (B + 1) 0 C (by exact rfl) (by go_simp) (by go_simp) tC hi44 hoC.out ?_ AllReady.nil
        simp only [Act.put]
        refine wpAny_done (by kernel_rfl) (NoPanic.normal ?_) _
        go_wp2
        exact bodyPost_ret (results_arrays Tryd.results19 rfl rfl sA2 sC Tryd.underlying37 rfl hi37 Tryd.underlying44 rfl hi44) rfl ⟨by rw [HA.out _ rfl, HC.out _ rfl], by rw [← HB.out]; exact bC⟩
end Go.Proofs.YtpgckbjcacagdaaDoor
