/- What keyBlock answers: the key's bytes, each with the mask. -/
import Derived.Test.YtpgckbjcacagdaaDoorWrite
namespace Go.Proofs.YtpgckbjcacagdaaDoor
open Go.RowKit
attribute [local go_sem] run_xor_B
attribute [local go_sem] match_U match_B run_cells_U run_cells_B run_store_U run_store_B
attribute [local go_sem ↓] storeAt_U storeAt_B
attribute [local go_sem ↓] zv26 zv38
section
variable {P : Program} {ops : Array Oper} {Q : Exit → Act → World → Prop} {md : Region.Mode} {fuel : Nat} {listed : Array Bool} {a : Act} {w : World} {i : Nat} {rs : List Nat}
variable {dd : Option Tmp} {x y : Operand} {tt : TypeId} {pos : String} {af : Array Edge}
theorem ready_copy (dT sT elem : TypeId) (b o dLen dCap : Nat) (ad : Addr) (sLen sCap : Nat) (cs : List Value) (n : Nat) (hcn : cs.length = n)
    (ho : ops[i]? = some { dst := dd, op := .call { callee := .builtin .copy, args := #[x, y], argTypes := #[dT, sT] }, type := tt, pos := pos, after := af, guard := none })
    (hu : P.underlying dT = some (.slice elem)) (hsz : (P.info? elem).map (·.size) = some 1)
    (hd : a.eval x = .slice (some ⟨b, o, none⟩) dLen dCap) (hy : a.eval y = .slice (some ad) sLen sCap) (hn : cs.length = Nat.min sLen dLen)
    (hsrc : ∀ j v, cs[j]? = some v → w.cell? (ad.add j) = some v) (ht : w.there b o cs.length) (h1 : ∀ v ∈ cs, v.oneCell' = true)
    (h : wpAny P md ops Q fuel (listed.setIfInBounds i true) (a.put dd (.int .i64 n)) (w.setCells b o cs)) (hs : AllReady P md ops Q fuel listed a w rs) : AllReady P md ops Q fuel listed a w (i :: rs) :=
  AllReady.cons ho (fun K hK => by
    subst hcn
    rw [if_pos (by simp [Region.wanted])]
    have hrun := run_copy_cells (P := P) w dT sT tt elem b o dLen dCap ad sLen sCap cs hu hsz hn hsrc (fun j hj => (ht j hj).1) (fun j hj => (ht j hj).2) h1
    unfold Oper.wp
    simp [execOp, resolve, invoke, builtin, hd, hy, hrun, Result.andThen]
    exact hK _ _ h) hs
end
/-- The key's bytes and noughts, up to a block, the first k with the mask. -/
def keyTo (l : List Byte) (m : Byte) (k : Nat) : List Byte := ((l ++ List.replicate 32 0).take k).map (· ^^^ m) ++ (l ++ List.replicate 32 0).drop k
theorem keyTo_length (l : List Byte) (hl : l.length = 32) (m : Byte) (k : Nat) : (keyTo l m k).length = 64 := by
  simp [keyTo, hl]; omega
theorem keyTo_set (l : List Byte) (hl : l.length = 32) (m : Byte) (k : Nat) (hk : k < 64) : (keyTo l m k).set k ((keyTo l m k).getD k 0 ^^^ m) = keyTo l m (k + 1) := by
  have hL : (l ++ List.replicate 32 (0 : Byte)).length = 64 := by simp [hl]
  unfold keyTo
  generalize l ++ List.replicate 32 (0 : Byte) = L at *
  have h1 : ((L.take k).map (· ^^^ m)).length = k := by simp; omega
  have hd : L.drop k = L[k] :: L.drop (k + 1) := List.drop_eq_getElem_cons (by omega)
  have hg : ((L.take k).map (· ^^^ m) ++ L.drop k).getD k 0 = L[k] := by
    rw [List.getD_eq_getElem?_getD, List.getElem?_append_right (by omega), h1, Nat.sub_self, hd]; rfl
  rw [hg, List.set_append_right _ _ (by omega), h1, Nat.sub_self, hd, List.set_cons_zero, List.take_succ_eq_append_getElem (by omega), List.map_append, List.append_assoc]
  rfl
set_option maxHeartbeats 1000000 in
theorem key_any (l : List Byte) (hl : l.length = 32) (m : Byte) (w : World) :
    Calls Tryd.prog 26 #[.agg (l.map B8).toArray, B8 m] w fun e w' => e = .returned (.agg ((keyTo l m 64).map B8).toArray) ∧ Below w.heap.size w w' := by
  obtain ⟨A, hA⟩ : ∃ A : List Value, A = l.map B8 := ⟨_, rfl⟩
  have hAl : A.length = 32 := by rw [hA, List.length_map, hl]
  have hoA : Hid (∀ v ∈ A, v.oneCell' = true) := by rw [hA]; exact mapB_one _
  have hi26 : (Tryd.prog.info? 26).map (·.size) = some A.length := by rw [hAl]; exact size26
  rw [← hA]
  have hb0 : Blk (((w.alloc (.cells A.toArray 26)).alloc (.cells (zB 64).toArray 38)).alloc (.cells (zB 64).toArray 38)) w.heap.size A 26 := ((Blk.new _ _ _).alloc _).alloc _
  have hb1 : Blk (((w.alloc (.cells A.toArray 26)).alloc (.cells (zB 64).toArray 38)).alloc (.cells (zB 64).toArray 38)) (w.heap.size + 1) (zB 64) 38 := (Blk.new' _ _ _ _ (by simp)).alloc _
  have hb2 : Blk (((w.alloc (.cells A.toArray 26)).alloc (.cells (zB 64).toArray 38)).alloc (.cells (zB 64).toArray 38)) (w.heap.size + 1 + 1) (zB 64) 38 := Blk.new' _ _ _ _ (by simp)
  have hbe : Below w.heap.size w (((w.alloc (.cells A.toArray 26)).alloc (.cells (zB 64).toArray 38)).alloc (.cells (zB 64).toArray 38)) := (((Below.refl _ _).alloc (Nat.le_refl _) _).alloc (by simp) _).alloc (by simp; omega) _
  have HA : Hid (A = l.map B8) := hA
  clear hA
  go_enter Tryd.func26, Tryd.ntmps26
  go_upto_region 2 with (fail)
  generalize ((w.alloc (.cells A.toArray 26)).alloc (.cells (zB 64).toArray 38)).alloc (.cells (zB 64).toArray 38) = W at *
  have hth : W.drew.there (w.heap.size + 1 + 1) 0 A.length := hb2.drew.there 0 _ (by rw [hAl, zB_length]; omega)
  have hsrc : Hid (∀ j v, A[j]? = some v → W.drew.cell? (Addr.add ⟨w.heap.size, 0, none⟩ j) = some v) := fun j v hv => by
    rw [Addr.add_mid, Nat.zero_add, hb0.drew.cell]; exact hv
  have hb3 := Blk.setCells A 0 hb2.drew (by rw [hAl, zB_length]; omega)
  rw [show over (zB 64) 0 A = (keyTo l m 0).map B8 by rw [HA.out]; simp [over, keyTo, zB, hl]] at hb3
  have hb4 := hb1.drew.setCells_ne (w.heap.size + 1 + 1) (by omega) 0 A
  have hbe4 := Below.setCells hbe.drew (b := w.heap.size + 1 + 1) (by omega) 0 A
  have hsz5 : (Tryd.prog.info? 5).map (·.size) = some 1 := by kernel_rfl
  have hmin : A.length = Nat.min 32 64 := hAl
  refine wp_region_noPanic ?_
  refine wp_region_any (by kernel_rfl) ?_
  change wpAny _ _ _ _ _ _ _ (World.drew _)
  refine take_op (i := 0) (.slice (some ⟨w.heap.size + 1 + 1, 0, none⟩) 64 64) (by exact rfl) (by kernel_rfl) (by kernel_rfl) (by kernel_rfl) (fun _ _ _ h => h) (fun w => by go_simp) ?_
  simp only [Act.put, List.setIfInBounds_toArray, List.set_cons_zero, List.set_cons_succ]
  refine take_op (i := 1) (.slice (some ⟨w.heap.size, 0, none⟩) 32 32) (by exact rfl) (by kernel_rfl) (by kernel_rfl) (by kernel_rfl) (fun _ _ _ h => h) (fun w => by go_simp) ?_
  simp only [Act.put, List.setIfInBounds_toArray, List.set_cons_zero, List.set_cons_succ]
  refine wpAny_ready (rs := [2]) (by kernel_rfl) (by simp) ?_
  refine ready_copy 29 29 5 (w.heap.size + 1 + 1) 0 64 64 ⟨w.heap.size, 0, none⟩ 32 32 A 32 hAl (by exact rfl) Tryd.underlying29 hsz5 (by go_simp) (by go_simp) hmin hsrc.out hth hoA.out ?_ AllReady.nil
  simp only [Act.put, List.setIfInBounds_toArray, List.set_cons_zero, List.set_cons_succ]
  refine wpAny_done (by kernel_rfl) (NoPanic.normal ?_) _
  clear hb2 hb1 hbe hb0 hsrc hth
  generalize W.drew.setCells (w.heap.size + 1 + 1) 0 A = W2 at *
  go_wp2
  go_loopw [10] (fun i wr => ∃ k : Nat, i = .int .i64 k ∧ k ≤ 64 ∧ Blk wr (w.heap.size + 1 + 1) ((keyTo l m k).map B8) 38 ∧ Only (w.heap.size + 1 + 1) W2 wr) (fun i _ => 64 - (intOf i).toNat)
  case atStart => exact ⟨0, rfl, by omega, hb3, Only.refl _ _⟩
  case round =>
    obtain ⟨k, rfl, hk, hBk, ho⟩ := hrel
    by_cases hlt : k < 64
    · have e0 : (0 : Int) ≤ (k : Int) := by omega
      have e1 : (k : Int) < 64 := by omega
      have f0 := hBk.frozen k
      have c0 := hBk.cellB (j := k) (by rw [keyTo_length l hl]; omega)
      have hB2 := hBk.set k (B8 ((keyTo l m k).getD k 0 ^^^ m))
      rw [set_mapB, keyTo_set l hl m k hlt] at hB2
      have ho2 := ho.setCell k (B8 ((keyTo l m k).getD k 0 ^^^ m))
      generalize (keyTo l m k).getD k 0 = x at *
      clear hBk ho
      go_wp2
      go_roundw
      case rel => exact ⟨k + 1, by go_num, by omega, hB2, ho2⟩
      case measure => simp [intOf]; omega
    · have hk64 : k = 64 := by omega
      subst hk64
      have e1 : ¬ ((64 : Nat) : Int) < 64 := by omega
      have hkl := keyTo_length l hl m 64
      have HE : Hid (∀ X, X = l → keyTo X m 64 = keyTo l m 64) := by rintro X rfl; rfl
      generalize keyTo l m 64 = E at *
      have hi38 : (Tryd.prog.info? 38).map (·.size) = some (E.map B8).length := by rw [List.length_map, hkl]; exact size38
      have hr := hBk.range
      have hBR := ho.blk hb4 (by omega)
      have hth := hBR.there 0 (E.map B8).length (by rw [List.length_map, hkl, zB_length]; omega)
      have hbr := Blk.setCells (E.map B8) 0 hBR (by rw [List.length_map, hkl, zB_length]; omega)
      rw [show over (zB 64) 0 (E.map B8) = E.map B8 by simp [over, zB, hkl]] at hbr
      have hbf := Below.setCells (hbe4.trans (ho.below (by omega) hbe4.size)) (b := w.heap.size + 1) (by omega) 0 (E.map B8)
      have hone : Hid (∀ v ∈ E.map B8, v.oneCell' = true) := mapB_one _
      go_wp2_with (first
        | ((with_reducible refine wpL_load 38 (w.heap.size + 1 + 1) 0 (E.map B8) _ ?_ hr Tryd.underlying38 ?_ hi38 ?_); (rfl); (rfl); (simp only [Act.put, List.setIfInBounds_toArray, List.set_cons_zero, List.set_cons_succ]))
        | ((with_reducible refine wpL_store 38 (w.heap.size + 1) 0 (E.map B8) ?_ ?_ hth hi38 hone.out ?_); (rfl); (rfl); (simp only [Act.put])))
      exact bodyPost_ret (results_array Tryd.results26 rfl hbr Tryd.underlying38 rfl hi38) rfl ⟨by rw [HE.out _ rfl], hbf⟩
end Go.Proofs.YtpgckbjcacagdaaDoor
