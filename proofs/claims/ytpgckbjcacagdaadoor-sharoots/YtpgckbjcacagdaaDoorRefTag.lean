/- What the reference's Tag answers: the HMAC. -/
import Derived.Test.YtpgckbjcacagdaaDoorTag
import Derived.Test.YtpgckbjcacagdaaDoorRefSum
import Derived.Maps.AppendAt
namespace Go.Proofs.YtpgckbjcacagdaaDoor
open Go.RowKit
attribute [local go_sem] run_xor_B
attribute [local go_sem] match_U match_B run_cells_U run_cells_B run_store_U run_store_B
attribute [local go_sem ↓] storeAt_U storeAt_B
attribute [local go_sem ↓] zv26
/-- append(s, x), one byte more, and where the new slice lies. -/
theorem wpL_appendA {ops : Array Oper} {rest : List Oper} {Q : Exit → Act → World → Prop} {a : Act} {w : World} {dd : Option Tmp} {s x : Operand} {tt : TypeId} {pos : String} {af : Array Edge} (base : Nat) (v : Value) (xs : List Byte) (y : Byte) (N q : Nat)
    (hN : xs.length = N) (hs : a.eval s = v) (hx : a.eval x = .slice (some ⟨q, 0, none⟩) 1 1) (ho : OwnB w base v xs) (hb : BytesAt w (.slice (some ⟨q, 0, none⟩) 1 1) [y]) (hsz : N < 1099511627776) (hbase : base ≤ w.heap.size)
    (h : ∀ p cap w', OwnB w' base (.slice p (N + 1) cap) (xs ++ [y]) → w.grownBy w' v.ownBlock → ((Value.slice p (N + 1) cap).ownBlock = v.ownBlock ∨ (Value.slice p (N + 1) cap).ownBlock = some w.heap.size) → wpList Tryd.prog ops Q rest (a.put dd (.slice p (N + 1) cap)) w') :
    wpList Tryd.prog ops Q ({ dst := dd, op := .call { callee := .builtin .append, args := #[s, x], argTypes := #[29, 29] }, type := tt, pos := pos, after := af, guard := none } :: rest) a w := by
  subst hN
  obtain ⟨i, hi, hz0, hz1, hz2⟩ := info_parts info5
  obtain ⟨p, cap, he, hc, hpn, hcell⟩ := hb
  obtain ⟨sb, so, rfl, hcl⟩ := hcell (by simp)
  injection he with he1 he2 he3
  injection he1 with he1
  injection he1 with he4 he5
  subst he4 he5
  refine wpList_append_own_at w rfl s x 29 rfl base 5 i (.int .u8 0) 1 1 Tryd.underlying29 hi hz0 hz1 hz2 rfl (by omega) v xs.length (xs.map B8) hs ho ⟨q, 0, none⟩ 1 1 [B8 y] hx (by simp) ?_ (fun u hu => by rw [List.mem_singleton.1 hu]; rfl) (by simp only [maxLen]; omega) (by omega) hbase ?_
  · intro j u hu
    obtain rfl : j = 0 := by have := (List.getElem?_eq_some_iff.1 hu).1; simpa using this
    rw [Addr.add_mid, hcl 0 (by simp), ← hu]
    rfl
  · intro v' w' ho' hg hnil hat
    have ho'' : OwnB w' base v' (xs ++ [y]) := by unfold OwnB; rw [List.map_append, List.length_append]; exact ho'
    obtain ⟨p', cap', rfl⟩ := ho''.form
    rw [List.length_append] at ho'' hat ⊢
    exact h p' cap' w' ho'' hg hat
/-- append(s, x...), its length by a name. -/
theorem wpL_appendN {ops : Array Oper} {rest : List Oper} {Q : Exit → Act → World → Prop} {a : Act} {w : World} {dd : Option Tmp} {s x : Operand} {tt : TypeId} {pos : String} {af : Array Edge} (base : Nat) (v sv : Value) (xs bs : List Byte) (N : Nat)
    (hN : xs.length + bs.length = N) (hs : a.eval s = v) (hx : a.eval x = sv) (ho : OwnB w base v xs) (hb : BytesAt w sv bs) (hsz : N ≤ 1099511627776) (hbase : base ≤ w.heap.size)
    (h : ∀ p cap w', OwnB w' base (.slice p N cap) (xs ++ bs) → w.grownBy w' v.ownBlock → Below base w w' → wpList Tryd.prog ops Q rest (a.put dd (.slice p N cap)) w') :
    wpList Tryd.prog ops Q ({ dst := dd, op := .call { callee := .builtin .append, args := #[s, x], argTypes := #[29, 29] }, type := tt, pos := pos, after := af, guard := none } :: rest) a w := by
  subst hN
  exact wpL_append base v sv xs bs hs hx ho hb hsz hbase h
/-- Two slices of the call's own, in two rows. -/
structure Two (w : World) (base : Nat) (v1 v2 : Value) (x1 x2 : List Byte) : Prop where
  o1 : OwnB w base v1 x1
  o2 : OwnB w base v2 x2
  ap : ∀ k, v1.ownBlock = some k → v2.ownBlock ≠ some k
theorem Two.swap {w : World} {base : Nat} {v1 v2 : Value} {x1 x2 : List Byte} (h : Two w base v1 v2 x1 x2) : Two w base v2 v1 x2 x1 := ⟨h.o2, h.o1, fun k h2 h1 => h.ap k h1 h2⟩
theorem Two.below {w w' : World} {base : Nat} {v1 v2 : Value} {x1 x2 : List Byte} (h : Two w base v1 v2 x1 x2) (hb : Below w.heap.size w w') : Two w' base v1 v2 x1 x2 := ⟨h.o1.below hb, h.o2.below hb, h.ap⟩
theorem Two.grow {w w' : World} {base : Nat} {v1 v2 v' : Value} {x1 x2 x' : List Byte} (h : Two w base v1 v2 x1 x2) (ho : OwnB w' base v' x') (hg : w.grownBy w' v1.ownBlock) (hat : v'.ownBlock = v1.ownBlock ∨ v'.ownBlock = some w.heap.size) : Two w' base v' v2 x' x2 := by
  refine ⟨ho, h.o2.stay fun k hk => hg.block k (h.o2.block k hk).2 (fun e => h.ap k e.symm hk), fun k h1 h2 => ?_⟩
  rcases hat with e | e
  · exact h.ap k (e ▸ h1) h2
  · rw [e] at h1
    injection h1 with h1
    have := (h.o2.block k h2).2
    omega
theorem OwnB.grown {w w' : World} {base : Nat} {v : Value} {xs : List Byte} (ho : OwnB w base v xs) (hg : w.grownBy w' v.ownBlock) (hbase : base ≤ w.heap.size) : Below base w w' :=
  ⟨hg.os, hg.tape, hg.output, hg.size, fun k hk => hg.block k (by omega) (fun e => by have := (ho.block k e.symm).1; omega)⟩
theorem run_xor54 (w : World) (p : Byte) : (binOp .xor 5 (B8 p) (.int .u8 54)).run Tryd.prog w = .ok (B8 (p ^^^ 54#8)) w := run_xor_B (t := 5) (P := Tryd.prog) w p 54
theorem run_xor92 (w : World) (p : Byte) : (binOp .xor 5 (B8 p) (.int .u8 92)).run Tryd.prog w = .ok (B8 (p ^^^ 92#8)) w := run_xor_B (t := 5) (P := Tryd.prog) w p 92
attribute [local go_sem ↓] run_xor54 run_xor92
theorem key_take (l : List Byte) (hl : l.length = 32) (m : Byte) (k : Nat) (hk : k < 64) (y : Byte) (hy : (l ++ List.replicate 32 0).getD k 0 = y) : (keyTo l m 64).take (k + 1) = (keyTo l m 64).take k ++ [y ^^^ m] := by
  have hL : (l ++ List.replicate 32 (0 : Byte)).length = 64 := by simp [hl]
  have e : keyTo l m 64 = (l ++ List.replicate 32 0).map (· ^^^ m) := by
    unfold keyTo
    rw [List.drop_eq_nil_of_le (by omega), List.take_of_length_le (by omega), List.append_nil]
  rw [e]
  generalize l ++ List.replicate 32 (0 : Byte) = L at *
  subst hy
  rw [List.take_succ_eq_append_getElem (by simp; omega)]
  simp [show k < L.length by omega]
set_option maxHeartbeats 1000000 in
theorem refTag_any (l : List Byte) (hl : l.length = 32) (bs : List Byte) (p : Option Addr) (cap : Nat) (w : World) (hB : BytesAt w (.slice p bs.length cap) bs) (hsz : bs.length ≤ 20000) :
    Calls Tryd.prog 15 #[.agg (l.map B8).toArray, .slice p bs.length cap] w fun e w' => e = .returned (.agg ((tagOf l bs).map B8).toArray) ∧ Below w.heap.size w w' := by
  have HB : Hid (BytesAt w (.slice p bs.length cap) bs) := hB
  clear hB
  obtain ⟨A, hA⟩ : ∃ A : List Value, A = l.map B8 := ⟨_, rfl⟩
  have HA : Hid (A = l.map B8) := hA
  rw [← hA]
  clear hA
  have hkB : Blk ((w.alloc (.cells A.toArray 26)).alloc (.cells (zB 32).toArray 26)) w.heap.size A 26 := (Blk.new _ _ _).alloc _
  have hrB : Blk ((w.alloc (.cells A.toArray 26)).alloc (.cells (zB 32).toArray 26)) (w.heap.size + 1) (zB 32) 26 := Blk.new' _ _ _ _ (by simp)
  have hbe0 : Below w.heap.size w ((w.alloc (.cells A.toArray 26)).alloc (.cells (zB 32).toArray 26)) := ((Below.refl _ _).alloc (Nat.le_refl _) _).alloc (by simp) _
  have hszW : ((w.alloc (.cells A.toArray 26)).alloc (.cells (zB 32).toArray 26)).heap.size = w.heap.size + 2 := by simp
  have hl1 := keyTo_length l hl 54 64
  have hl2 := keyTo_length l hl 92 64
  have HT1 : Hid (∀ X, X = bs → tagOf l X = digest (keyTo l 92 64 ++ digest (keyTo l 54 64 ++ X))) := fun _ _ => rfl
  have hkt1 : Hid (∀ k y, k < 64 → (l ++ List.replicate 32 0).getD k 0 = y → (keyTo l 54 64).take (k + 1) = (keyTo l 54 64).take k ++ [y ^^^ 54]) := fun k y hk hy => key_take l hl 54 k hk y hy
  have hkt2 : Hid (∀ k y, k < 64 → (l ++ List.replicate 32 0).getD k 0 = y → (keyTo l 92 64).take (k + 1) = (keyTo l 92 64).take k ++ [y ^^^ 92]) := fun k y hk hy => key_take l hl 92 k hk y hy
  obtain ⟨K1, hK1⟩ : ∃ K, K = keyTo l 54 64 := ⟨_, rfl⟩
  obtain ⟨K2, hK2⟩ : ∃ K, K = keyTo l 92 64 := ⟨_, rfl⟩
  rw [← hK1, ← hK2] at HT1
  rw [← hK1] at hl1 hkt1
  rw [← hK2] at hl2 hkt2
  clear hK1 hK2
  go_enter Tryd.func15, Tryd.ntmps15
  go_wp2
  generalize (w.alloc (.cells A.toArray 26)).alloc (.cells (zB 32).toArray 26) = W at *
  go_loopw [5, 6, 7] (fun v1 v2 i wr => ∃ (k : Nat) (p1 : Option Addr) (c1 : Nat) (p2 : Option Addr) (c2 : Nat), v1 = .slice p1 k c1 ∧ v2 = .slice p2 k c2 ∧ i = .int .i64 (k : Int) ∧ k ≤ 64 ∧ Hid (Two wr (w.heap.size + 2) (.slice p1 k c1) (.slice p2 k c2) (K1.take k) (K2.take k)) ∧ Below (w.heap.size + 2) W wr) (fun _ _ i _ => 64 - (intOf i).toNat)
  case atStart => exact ⟨0, none, 0, none, 0, rfl, rfl, rfl, by omega, ⟨OwnB.nil _ _, OwnB.nil _ _, fun k h => by simp [Value.ownBlock] at h⟩, Below.refl _ _⟩
  case round =>
    obtain ⟨k, p1, c1, p2, c2, rfl, rfl, rfl, hk, HT, hbe⟩ := hrel
    have hszr := hbe.size
    by_cases hlt : k < 64
    · have e0 : (0 : Int) ≤ (k : Int) := by omega
      have e1 : (k : Int) < 64 := by omega
      have hlen1 : (K1.take k).length = k := by rw [List.length_take]; omega
      have hlen2 : (K2.take k).length = k := by rw [List.length_take]; omega
      by_cases h32 : k < 32
      · have e2 : (k : Int) < 32 := by omega
        have c0 : wr.cell? ⟨w.heap.size, k, none⟩ = some (B8 (l.getD k 0)) := by
          have hBk := hkB.below hbe (by omega)
          rw [HA.out] at hBk
          exact hBk.cellB (by omega)
        have hyk : (l ++ List.replicate 32 (0 : Byte)).getD k 0 = l.getD k 0 := by
          rw [List.getD_eq_getElem?_getD, List.getD_eq_getElem?_getD, List.getElem?_append_left (by omega)]
        have HK1 : Hid (K1.take (k + 1) = K1.take k ++ [l.getD k 0 ^^^ 54#8]) := hkt1.out k _ hlt hyk
        have HK2 : Hid (K2.take (k + 1) = K2.take k ++ [l.getD k 0 ^^^ 92#8]) := hkt2.out k _ hlt hyk
        clear hyk
        generalize l.getD k 0 = y at *
        have hT1 : Two (wr.alloc (.cells #[B8 (y ^^^ 54#8)] 5)) (w.heap.size + 2) (.slice p1 k c1) (.slice p2 k c2) (K1.take k) (K2.take k) := HT.out.below ((Below.refl _ _).alloc (Nat.le_refl _) _)
        have hB1 : BytesAt (wr.alloc (.cells #[B8 (y ^^^ 54#8)] 5)) (.slice (some ⟨wr.heap.size, 0, none⟩) 1 1) [y ^^^ 54#8] := bytes_one _ _ _ rfl
        have hbe1 : Below (w.heap.size + 2) W (wr.alloc (.cells #[B8 (y ^^^ 54#8)] 5)) := hbe.alloc (by omega) _
        go_upto_region 9 with (first
          | ((with_reducible refine wpL_appendA (w.heap.size + 2) (.slice p1 k c1) (K1.take k) (y ^^^ 54#8) k wr.heap.size hlen1 ?_ ?_ hT1.o1 hB1 (by omega) (by simp; omega) ?_); (rfl); (rfl); (intro p5 c5 w5 hO5 hg5 hat5); (simp only [Act.put, List.setIfInBounds_toArray, List.set_cons_zero, List.set_cons_succ])))
        have hbe5 := hbe1.trans (hT1.o1.grown hg5 (by simp; omega))
        have hT2 := hT1.grow hO5 hg5 hat5
        have hsz5 := hbe5.size
        have hT3 : Two (w5.alloc (.cells #[B8 (y ^^^ 92#8)] 5)) (w.heap.size + 2) (.slice p5 (k + 1) c5) (.slice p2 k c2) (K1.take k ++ [y ^^^ 54#8]) (K2.take k) := hT2.below ((Below.refl _ _).alloc (Nat.le_refl _) _)
        have hB3 : BytesAt (w5.alloc (.cells #[B8 (y ^^^ 92#8)] 5)) (.slice (some ⟨w5.heap.size, 0, none⟩) 1 1) [y ^^^ 92#8] := bytes_one _ _ _ rfl
        have hbe3 : Below (w.heap.size + 2) W (w5.alloc (.cells #[B8 (y ^^^ 92#8)] 5)) := hbe5.alloc (by omega) _
        clear hT1 hT2 hB1 hbe1 hg5 hat5 hO5
        go_wp2_with (first
          | ((with_reducible refine wpL_appendA (w.heap.size + 2) (.slice p2 k c2) (K2.take k) (y ^^^ 92#8) k w5.heap.size hlen2 ?_ ?_ hT3.o2 hB3 (by omega) (by simp; omega) ?_); (rfl); (rfl); (intro p6 c6 w6 hO6 hg6 hat6); (simp only [Act.put, List.setIfInBounds_toArray, List.set_cons_zero, List.set_cons_succ])))
        go_roundw
        case rel =>
          have hT6 := (hT3.swap.grow hO6 hg6 hat6).swap
          exact ⟨k + 1, p5, c5, p6, c6, rfl, rfl, by go_num, by omega, by rw [HK1.out, HK2.out]; exact hT6, hbe3.trans (hT3.o2.grown hg6 (by simp; omega))⟩
        case measure => simp [intOf]; omega
      · have e2 : ¬ (k : Int) < 32 := by omega
        have hyk : (l ++ List.replicate 32 (0 : Byte)).getD k 0 = 0 := by
          rw [List.getD_eq_getElem?_getD, List.getElem?_append_right (by omega), List.getElem?_replicate]
          split <;> rfl
        have HK1 : Hid (K1.take (k + 1) = K1.take k ++ [0 ^^^ 54#8]) := hkt1.out k _ hlt hyk
        have HK2 : Hid (K2.take (k + 1) = K2.take k ++ [0 ^^^ 92#8]) := hkt2.out k _ hlt hyk
        clear hyk
        have hT1 : Two (wr.alloc (.cells #[Value.int .u8 (bits .xor .u8 0 54)] 5)) (w.heap.size + 2) (.slice p1 k c1) (.slice p2 k c2) (K1.take k) (K2.take k) := HT.out.below ((Below.refl _ _).alloc (Nat.le_refl _) _)
        have hB1 : BytesAt (wr.alloc (.cells #[Value.int .u8 (bits .xor .u8 0 54)] 5)) (.slice (some ⟨wr.heap.size, 0, none⟩) 1 1) [(0 : Byte) ^^^ 54#8] := bytes_one _ _ _ rfl
        have hbe1 : Below (w.heap.size + 2) W (wr.alloc (.cells #[Value.int .u8 (bits .xor .u8 0 54)] 5)) := hbe.alloc (by omega) _
        go_upto_region 9 with (first
          | ((with_reducible refine wpL_appendA (w.heap.size + 2) (.slice p1 k c1) (K1.take k) ((0 : Byte) ^^^ 54#8) k wr.heap.size hlen1 ?_ ?_ hT1.o1 hB1 (by omega) (by simp; omega) ?_); (rfl); (rfl); (intro p5 c5 w5 hO5 hg5 hat5); (simp only [Act.put, List.setIfInBounds_toArray, List.set_cons_zero, List.set_cons_succ])))
        have hbe5 := hbe1.trans (hT1.o1.grown hg5 (by simp; omega))
        have hT2 := hT1.grow hO5 hg5 hat5
        have hsz5 := hbe5.size
        have hT3 : Two (w5.alloc (.cells #[Value.int .u8 (bits .xor .u8 0 92)] 5)) (w.heap.size + 2) (.slice p5 (k + 1) c5) (.slice p2 k c2) (K1.take k ++ [(0 : Byte) ^^^ 54#8]) (K2.take k) := hT2.below ((Below.refl _ _).alloc (Nat.le_refl _) _)
        have hB3 : BytesAt (w5.alloc (.cells #[Value.int .u8 (bits .xor .u8 0 92)] 5)) (.slice (some ⟨w5.heap.size, 0, none⟩) 1 1) [(0 : Byte) ^^^ 92#8] := bytes_one _ _ _ rfl
        have hbe3 : Below (w.heap.size + 2) W (w5.alloc (.cells #[Value.int .u8 (bits .xor .u8 0 92)] 5)) := hbe5.alloc (by omega) _
        clear hT1 hT2 hB1 hbe1 hg5 hat5 hO5
        go_wp2_with (first
          | ((with_reducible refine wpL_appendA (w.heap.size + 2) (.slice p2 k c2) (K2.take k) ((0 : Byte) ^^^ 92#8) k w5.heap.size hlen2 ?_ ?_ hT3.o2 hB3 (by omega) (by simp; omega) ?_); (rfl); (rfl); (intro p6 c6 w6 hO6 hg6 hat6); (simp only [Act.put, List.setIfInBounds_toArray, List.set_cons_zero, List.set_cons_succ])))
        go_roundw
        case rel =>
          have hT6 := (hT3.swap.grow hO6 hg6 hat6).swap
          exact ⟨k + 1, p5, c5, p6, c6, rfl, rfl, by go_num, by omega, by rw [HK1.out, HK2.out]; exact hT6, hbe3.trans (hT3.o2.grown hg6 (by simp; omega))⟩
        case measure => simp [intOf]; omega
    · have hk64 : k = 64 := by omega
      subst hk64
      have e1 : ¬ ((64 : Nat) : Int) < 64 := by omega
      rw [List.take_of_length_le (by omega), List.take_of_length_le (by omega)] at HT
      have hBb := (HB.out.below hbe0).below (hbe.mono (by omega))
      have hO1 := HT.out.o1
      obtain ⟨N5, hN5⟩ : ∃ N, K1.length + bs.length = N := ⟨_, rfl⟩
      have hs1 : N5 ≤ 1099511627776 := by omega
      clear hkt1 hkt2 hlt hk
      go_upto_region 11 with (first
        | ((with_reducible refine wpL_appendN (w.heap.size + 2) (.slice p1 64 c1) (.slice p bs.length cap) K1 bs N5 hN5 ?_ ?_ hO1 hBb hs1 (by omega) ?_); (rfl); (rfl); (intro p5 c5 w5 hO5 hg5 hb5); (simp only [Act.put, List.setIfInBounds_toArray, List.set_cons_zero, List.set_cons_succ])))
      have hO2 : OwnB w5 (w.heap.size + 2) (.slice p2 64 c2) K2 := HT.out.o2.stay fun k hk => hg5.block k (HT.out.o2.block k hk).2 (fun e => HT.out.ap k e.symm hk)
      have hbe5 := hbe.trans hb5
      have hBi := hO5.bytes
      have hsz5 := hbe5.size
      have hrB5 := hrB.below hbe5 (by omega)
      have hex : ∃ D : List Byte, D.length = 32 ∧ Hid (∀ X, X = K1 ++ bs → digest X = D) := ⟨digest (K1 ++ bs), digest_length _, by rintro X rfl; rfl⟩
      obtain ⟨D, hDl, HD⟩ := hex
      have hcall : Hid (Calls Tryd.prog 12 #[.slice p5 N5 c5] w5 fun e w' => e = .returned (.agg (D.map B8).toArray) ∧ Below w5.heap.size w5 w') := by
        rw [← hN5, ← List.length_append] at hBi ⊢
        have := refSum_any (K1 ++ bs) p5 c5 w5 hBi (by rw [List.length_append]; omega)
        rw [HD.out _ rfl] at this; exact this
      have hiD : (Tryd.prog.info? 26).map (·.size) = some (D.map B8).length := by rw [List.length_map, hDl]; exact size26
      have honeD : Hid (∀ v ∈ D.map B8, v.oneCell' = true) := mapB_one _
      have hzD : (zB 32).length = (D.map B8).length := by rw [List.length_map, hDl, zB_length]
      clear HT hbe hBb hO1 hO5 hg5 hb5 hBi hszr hkB hrB hN5 hs1
      go_wp2_with fail
      refine hcall.out.mono ?_
      rintro e w6 ⟨rfl, hb6⟩
      have hrB6 := (hrB5.below hb6 hrB5.lt).alloc (.cells (D.map B8).toArray 26)
      have hO6 : OwnB (w6.alloc (.cells (D.map B8).toArray 26)) (w.heap.size + 2) (.slice p2 64 c2) K2 := (hO2.below hb6).below ((Below.refl _ _).alloc (Nat.le_refl _) _)
      have hd6 : BytesAt (w6.alloc (.cells (D.map B8).toArray 26)) (.slice (some ⟨w6.heap.size, 0, none⟩) 32 32) D := blk_bytes 32 hDl (Blk.new _ _ _)
      have hbs6 := hbe5.trans (hb6.mono (by omega))
      have hbe6 : Below (w.heap.size + 2) W (w6.alloc (.cells (D.map B8).toArray 26)) := hbs6.alloc (by have := hbs6.size; omega) _
      have hsz6 := hbe6.size
      obtain ⟨N7, hN7⟩ : ∃ N, K2.length + D.length = N := ⟨_, rfl⟩
      have hs2 : N7 ≤ 1099511627776 := by omega
      clear hcall hrB5 hO2 hb6 hbs6
      go_upto_region 13 with (first
        | ((with_reducible refine wpL_new 26 (zB 32) (D.map B8) zv26 hzD ?_ ?_ hiD honeD.out ?_); (rfl); (rfl); (simp only [Act.put, List.setIfInBounds_toArray, List.set_cons_zero, List.set_cons_succ]))
        | ((with_reducible refine wpL_appendN (w.heap.size + 2) (.slice p2 64 c2) (.slice (some ⟨w6.heap.size, 0, none⟩) 32 32) K2 D N7 hN7 ?_ ?_ hO6 hd6 hs2 (by omega) ?_); (rfl); (rfl); (intro p7 c7 w7 hO7 hg7 hb7); (simp only [Act.put, List.setIfInBounds_toArray, List.set_cons_zero, List.set_cons_succ])))
      have hbe7 := hbe6.trans hb7
      have hrB7 := hrB6.below hb7 (by omega)
      have hBi := hO7.bytes
      have hsz7 := hbe7.size
      have hex : ∃ E : List Byte, E.length = 32 ∧ Hid (∀ X, X = K2 ++ D → digest X = E) := ⟨digest (K2 ++ D), digest_length _, by rintro X rfl; rfl⟩
      obtain ⟨E, hEl, HE⟩ := hex
      have hcall : Hid (Calls Tryd.prog 12 #[.slice p7 N7 c7] w7 fun e w' => e = .returned (.agg (E.map B8).toArray) ∧ Below w7.heap.size w7 w') := by
        rw [← hN7, ← List.length_append] at hBi ⊢
        have := refSum_any (K2 ++ D) p7 c7 w7 hBi (by rw [List.length_append]; omega)
        rw [HE.out _ rfl] at this; exact this
      have hiE : (Tryd.prog.info? 26).map (·.size) = some (E.map B8).length := by rw [List.length_map, hEl]; exact size26
      have honeE : Hid (∀ v ∈ E.map B8, v.oneCell' = true) := mapB_one _
      clear hrB6 hO6 hd6 hbe6 hb7 hBi hO7 hg7 hN7 hs2
      go_wp2_with fail
      refine hcall.out.mono ?_
      rintro e w8 ⟨rfl, hb8⟩
      have hrB8 := hrB7.below hb8 hrB7.lt
      have hth := hrB8.there 0 (E.map B8).length (by rw [List.length_map, hEl, zB_length]; omega)
      have hbr := Blk.setCells (E.map B8) 0 hrB8 (by rw [List.length_map, hEl, zB_length]; omega)
      rw [show over (zB 32) 0 (E.map B8) = E.map B8 by simp [over, zB, hEl]] at hbr
      have hbf := Below.setCells (hbe0.trans ((hbe7.trans (hb8.mono (by omega))).mono (by omega))) (b := w.heap.size + 1) (by omega) 0 (E.map B8)
      go_wp2_with (first
        | ((with_reducible refine wpL_store 26 (w.heap.size + 1) 0 (E.map B8) ?_ ?_ hth hiE honeE.out ?_); (rfl); (rfl); (simp only [Act.put])))
      exact bodyPost_ret (results_array Tryd.results15 rfl hbr Tryd.underlying26 rfl hiE) rfl ⟨by rw [HT1.out _ rfl, HD.out _ rfl, HE.out _ rfl], hbf⟩
end Go.Proofs.YtpgckbjcacagdaaDoor
