/- What the reference's One answers of at most 55 bytes: SHA-256, if its numbers are those of SHA-256. -/
import Derived.Test.YtpgckbjcacagdaaDoorRefTag
namespace Go.Proofs.YtpgckbjcacagdaaDoor
open Go.RowKit
attribute [local go_sem] run_add_U run_xor_U run_and_U run_or_U run_not_U run_shr_U run_shl_U convBU convUB
attribute [local go_sem] match_U match_B run_cells_U run_cells_B run_store_U run_store_B
attribute [local go_sem ↓] storeAt_U storeAt_B
attribute [local go_sem ↓] zv44 zv37 zv26
attribute [local go_sem ↓] run_quo4
theorem one_pad (n : Nat) (h : n ≤ 55) : 128 :: List.replicate (61 - n) (0 : Byte) ++ [BitVec.ofNat 8 (8 * n / 256)] ++ [BitVec.ofNat 8 (8 * n % 256)] = padOf n := by
  have hf : freeOf n = 64 - n := by unfold freeOf; split <;> omega
  have z : ∀ k, 2 ≤ k → 8 * n / 2 ^ (8 * k) = 0 := fun k hk => Nat.div_eq_of_lt (Nat.lt_of_lt_of_le (by omega : 8 * n < 2 ^ (8 * 2)) (Nat.pow_le_pow_right (by omega) (by omega)))
  have e : lenB (8 * n) 8 = List.replicate 6 0 ++ [BitVec.ofNat 8 (8 * n / 256)] ++ [BitVec.ofNat 8 (8 * n % 256)] := by
    simp only [lenB, z 7 (by omega), z 6 (by omega), z 5 (by omega), z 4 (by omega), z 3 (by omega), z 2 (by omega)]
    have e1 : BitVec.ofNat 8 (8 * n / 2 ^ (8 * 0)) = BitVec.ofNat 8 (8 * n % 256) := by
      apply BitVec.eq_of_toNat_eq; simp
    rw [e1]
    rfl
  unfold padOf
  rw [hf, e, show 64 - n - 1 - 8 = 55 - n by omega, show 61 - n = (55 - n) + 6 by omega, ← List.replicate_append_replicate]
  simp
theorem run_quo256 (w : World) (n : Nat) (h : n ≤ 55) : (binOp .quo 3 (.int .i64 ((n : Int) * 8)) (.int .i64 256)).run Tryd.prog w = .ok (.int .i64 ((8 * n / 256 : Nat) : Int)) w := by
  have e : ((n : Int) * 8).tdiv 256 = ((8 * n / 256 : Nat) : Int) := by
    rw [Int.tdiv_eq_ediv_of_nonneg (by omega)]; omega
  simp [binOp, Op.intDiv, e]
  rw [IntKind.wrap_i64]; omega
attribute [local go_sem ↓] run_quo256
set_option maxRecDepth 100000 in
set_option maxHeartbeats 4000000 in
theorem one_any (bs : List Byte) (p : Option Addr) (cap : Nat) (w : World) (hB : BytesAt w (.slice p bs.length cap) bs) (hsz : bs.length ≤ 55) :
    Calls Tryd.prog 20 #[.agg (H0.list.map U).toArray, .agg (KW.map U).toArray, .slice p bs.length cap] w fun e w' => e = .returned (.agg ((digest bs).map B8).toArray) ∧ Below w.heap.size w w' := by
  obtain ⟨A, hA⟩ : ∃ A : List Value, A = H0.list.map U := ⟨_, rfl⟩
  obtain ⟨C, hC⟩ : ∃ C : List Value, C = KW.map U := ⟨_, rfl⟩
  have hAl : A.length = 8 := by rw [hA]; rfl
  have hCl : C.length = 64 := by rw [hC]; rfl
  have hi37 : (Tryd.prog.info? 37).map (·.size) = some A.length := by rw [hAl]; exact size37
  have hi44 : (Tryd.prog.info? 44).map (·.size) = some C.length := by rw [hCl]; exact size44
  rw [← hA, ← hC]
  have HA : Hid (∀ X, X = H0.list.map U → X = A) := by rintro X rfl; rw [hA]
  have HC : Hid (∀ X, X = KW.map U → X = C) := by rintro X rfl; rw [hC]
  have HB : Hid (BytesAt w (.slice p bs.length cap) bs) := hB
  clear hA hC hB
  have hb0 : Blk (((w.alloc (.cells A.toArray 37)).alloc (.cells C.toArray 44)).alloc (.cells (zB 32).toArray 26)) w.heap.size A 37 := ((Blk.new _ _ _).alloc _).alloc _
  have hb1 : Blk (((w.alloc (.cells A.toArray 37)).alloc (.cells C.toArray 44)).alloc (.cells (zB 32).toArray 26)) (w.heap.size + 1) C 44 := (Blk.new' _ _ _ _ (by simp)).alloc _
  have hbN : Blk (((w.alloc (.cells A.toArray 37)).alloc (.cells C.toArray 44)).alloc (.cells (zB 32).toArray 26)) (w.heap.size + 2) (zB 32) 26 := Blk.new' _ _ _ _ (by simp)
  have hbe : Below w.heap.size w (((w.alloc (.cells A.toArray 37)).alloc (.cells C.toArray 44)).alloc (.cells (zB 32).toArray 26)) := (((Below.refl _ _).alloc (Nat.le_refl _) _).alloc (by simp) _).alloc (by simp; omega) _
  have hWM : (((w.alloc (.cells A.toArray 37)).alloc (.cells C.toArray 44)).alloc (.cells (zB 32).toArray 26)).heap.size = w.heap.size + 3 := by simp
  have hBW := HB.out.below hbe
  go_enter Tryd.func20, Tryd.ntmps20
  go_upto_region 2 with (fail)
  generalize ((w.alloc (.cells A.toArray 37)).alloc (.cells C.toArray 44)).alloc (.cells (zB 32).toArray 26) = W at *
  go_upto_region 3 with (first
    | ((with_reducible refine wpL_append0 (w.heap.size + 3) (.slice p bs.length cap) bs ?_ ?_ hBW (by omega) (by omega) ?_); (rfl); (rfl); (intro pi ci w2 hO2 hb2); (simp only [Act.put, List.setIfInBounds_toArray, List.set_cons_zero, List.set_cons_succ])))
  have hsz3 := hb2.size
  have hO3 : OwnB (w2.alloc (.cells #[Value.int .u8 128] 5)) (w.heap.size + 3) (.slice pi bs.length ci) bs := hO2.below ((Below.refl _ _).alloc (Nat.le_refl _) _)
  have hB3 : BytesAt (w2.alloc (.cells #[Value.int .u8 128] 5)) (.slice (some ⟨w2.heap.size, 0, none⟩) 1 1) [128] := bytes_one _ _ 128 rfl
  have hbe3 : Below (w.heap.size + 3) W (w2.alloc (.cells #[Value.int .u8 128] 5)) := hb2.alloc (by omega) _
  go_wp2_with (first
    | ((with_reducible refine wpL_append1 (w.heap.size + 3) (.slice pi bs.length ci) bs 128 bs.length w2.heap.size rfl ?_ ?_ hO3 hB3 (by omega) (by simp; omega) ?_); (rfl); (rfl); (intro pj cj w3 hO4 hb4); (simp only [Act.put, List.setIfInBounds_toArray, List.set_cons_zero, List.set_cons_succ])))
  have hbe4 : Below (w.heap.size + 3) W w3 := hbe3.trans hb4
  clear hbe3 hb4 hB3 hO3 hb2 hO2 hsz3 hBW
  obtain ⟨n, hn⟩ : ∃ n, n = bs.length := ⟨_, rfl⟩
  have HN : Hid (n = bs.length) := hn
  rw [← hn] at hO4 hsz
  simp only [← hn]
  clear hn
  go_loopw [7] (fun v wr => ∃ k N pj cj, v = .slice pj N cj ∧ N = n + 1 + k ∧ k ≤ 61 - n ∧ Hid (OwnB wr (w.heap.size + 3) (.slice pj N cj) (bs ++ 128 :: List.replicate k 0)) ∧ Below (w.heap.size + 3) W wr) (fun v _ => 62 - slLen v)
  case atStart => exact ⟨0, n + 1, pj, cj, rfl, by omega, by omega, hO4, hbe4⟩
  case round =>
    obtain ⟨k, N, pk, ck, rfl, hNk, hk, HO, hbeK⟩ := hrel
    clear hO4 hbe4
    have hszr := hbeK.size
    by_cases hlt : k < 61 - n
    · have e1 : (N : Int) < 62 := by omega
      have hO5 : OwnB (wr.alloc (.cells #[Value.int .u8 0] 5)) (w.heap.size + 3) (.slice pk N ck) (bs ++ 128 :: List.replicate k 0) := HO.out.below ((Below.refl _ _).alloc (Nat.le_refl _) _)
      have hB5 : BytesAt (wr.alloc (.cells #[Value.int .u8 0] 5)) (.slice (some ⟨wr.heap.size, 0, none⟩) 1 1) [0] := bytes_one _ _ 0 rfl
      have hN5 : (bs ++ 128 :: List.replicate k (0 : Byte)).length = N := by simp; have := HN.out; omega
      have hbe5 : Below (w.heap.size + 3) W (wr.alloc (.cells #[Value.int .u8 0] 5)) := hbeK.alloc (by omega) _
      clear HO
      go_wp2_with (first
        | ((with_reducible refine wpL_append1 (w.heap.size + 3) (.slice pk N ck) (bs ++ 128 :: List.replicate k 0) 0 N wr.heap.size hN5 ?_ ?_ hO5 hB5 (by omega) (by simp; omega) ?_); (rfl); (rfl); (intro pm cm w5 hO6 hb6); (simp only [Act.put, List.setIfInBounds_toArray, List.set_cons_zero, List.set_cons_succ])))
      go_roundw
      case rel =>
        refine ⟨k + 1, N + 1, pm, cm, rfl, by omega, by omega, ?_, hbe5.trans hb6⟩
        rw [List.replicate_succ', ← List.cons_append, ← List.append_assoc]
        exact hO6
      case measure => simp only [slLen]; omega
    · have hkk : k = 61 - n := by omega
      obtain rfl : N = 62 := by omega
      subst hkk
      have hX0 : bs ++ 128 :: List.replicate (61 - n) (0 : Byte) ++ [BitVec.ofNat 8 (8 * n / 256)] ++ [BitVec.ofNat 8 (8 * n % 256)] = bs ++ padOf bs.length := by
        rw [← HN.out, ← one_pad n hsz]; simp
      have HX : Hid (bs ++ 128 :: List.replicate (61 - n) (0 : Byte) ++ [BitVec.ofNat 8 (8 * n / 256)] ++ [BitVec.ofNat 8 (8 * n % 256)] = bs ++ padOf bs.length) := hX0
      clear hX0
      have hXl : (bs ++ 128 :: List.replicate (61 - n) (0 : Byte)).length = 62 := by simp; have := HN.out; omega
      generalize bs ++ 128 :: List.replicate (61 - n) (0 : Byte) = Y at *
      have hv1 : Value.int .u8 ((n : Int) * 8 / 256) = B8 (BitVec.ofNat 8 (8 * n / 256)) := by
        rw [B8_of]; congr 1; omega
      have hv2 : Value.int .u8 ((n : Int) * 8 % 256) = B8 (BitVec.ofNat 8 (8 * n % 256)) := by
        rw [B8_of]; congr 1; omega
      have hO5 : OwnB (wr.alloc (.cells #[Value.int .u8 ((n : Int) * 8 / 256)] 5)) (w.heap.size + 3) (.slice pk 62 ck) Y := HO.out.below ((Below.refl _ _).alloc (Nat.le_refl _) _)
      have hB5 : BytesAt (wr.alloc (.cells #[Value.int .u8 ((n : Int) * 8 / 256)] 5)) (.slice (some ⟨wr.heap.size, 0, none⟩) 1 1) [BitVec.ofNat 8 (8 * n / 256)] := bytes_one _ _ _ hv1
      have hbe5 : Below (w.heap.size + 3) W (wr.alloc (.cells #[Value.int .u8 ((n : Int) * 8 / 256)] 5)) := hbeK.alloc (by omega) _
      clear HO hNk hlt hk hv1
      go_upto_region 7 with (first
        | ((with_reducible refine wpL_append1 (w.heap.size + 3) (.slice pk 62 ck) Y _ 62 wr.heap.size hXl ?_ ?_ hO5 hB5 (by omega) (by simp; omega) ?_); (rfl); (rfl); (intro pm cm w6 hO6 hb6); (simp only [Act.put, List.setIfInBounds_toArray, List.set_cons_zero, List.set_cons_succ])))
      have hbe6 := hbe5.trans hb6
      have hsz6 := hbe6.size
      have hXl6 : (Y ++ [BitVec.ofNat 8 (8 * n / 256)]).length = 63 := by rw [List.length_append, hXl]; rfl
      have hO7 : OwnB (w6.alloc (.cells #[Value.int .u8 ((n : Int) * 8 % 256)] 5)) (w.heap.size + 3) (.slice pm 63 cm) (Y ++ [BitVec.ofNat 8 (8 * n / 256)]) := hO6.below ((Below.refl _ _).alloc (Nat.le_refl _) _)
      have hB7 : BytesAt (w6.alloc (.cells #[Value.int .u8 ((n : Int) * 8 % 256)] 5)) (.slice (some ⟨w6.heap.size, 0, none⟩) 1 1) [BitVec.ofNat 8 (8 * n % 256)] := bytes_one _ _ _ hv2
      have hbe7 : Below (w.heap.size + 3) W (w6.alloc (.cells #[Value.int .u8 ((n : Int) * 8 % 256)] 5)) := hbe6.alloc (by omega) _
      clear hO5 hB5 hbe5 hb6 hO6 hv2
      go_upto_region 8 with (first
        | ((with_reducible refine wpL_append1 (w.heap.size + 3) (.slice pm 63 cm) (Y ++ [BitVec.ofNat 8 (8 * n / 256)]) _ 63 w6.heap.size hXl6 ?_ ?_ hO7 hB7 (by omega) (by simp; omega) ?_); (rfl); (rfl); (intro pq cq w8 hO8 hb8); (simp only [Act.put, List.setIfInBounds_toArray, List.set_cons_zero, List.set_cons_succ])))
      have hbe8 := hbe7.trans hb8
      rw [HX.out] at hO8
      have hZl : (bs ++ padOf bs.length).length = 64 := by rw [← HX.out, List.length_append, hXl6]; rfl
      obtain ⟨sb, so, hpq, hcell⟩ : ∃ sb so, pq = some ⟨sb, so, none⟩ ∧ Hid (∀ i, i < 64 → w8.cell? ⟨sb, so + i, none⟩ = some (B8 ((bs ++ padOf bs.length).getD i 0))) := by
        obtain ⟨p1, c1, he, hc1, _, hcl⟩ := hO8.bytes
        injection he with he1 he2 he3
        subst he1 he3
        obtain ⟨sb, so, rfl, hcell⟩ := hcl (by intro h; rw [h] at hZl; simp at hZl)
        exact ⟨sb, so, rfl, by rw [← hZl]; exact hcell⟩
      subst hpq
      have HD : Hid (∀ Y, Y = bs → bytesOf (compress KW H0 (bs ++ padOf bs.length)).list = digest Y) := by
        rintro Y rfl
        unfold digest
        rw [hZl]
        show _ = bytesOf (compress KW H0 (((Y ++ padOf Y.length).drop (64 * 0)).take 64)).list
        rw [Nat.mul_zero, List.drop_zero, List.take_of_length_le (by omega)]
      have hcall : Hid (Calls Tryd.prog 25 #[.agg A.toArray, .agg C.toArray, .slice (some ⟨sb, so, none⟩) 64 cq] w8 fun e w' => e = .returned (.agg ((compress KW H0 (bs ++ padOf bs.length)).list.map U).toArray) ∧ Below w8.heap.size w8 w') := by
        have := block_any H0 KW rfl (bs ++ padOf bs.length) sb so cq w8 (fun i hi => hcell.out i hi)
        rw [HC.out _ rfl, HA.out _ rfl] at this
        exact this
      have hi37' : (Tryd.prog.info? 37).map (·.size) = some ((compress KW H0 (bs ++ padOf bs.length)).list.map U).length := size37
      obtain ⟨S, hS⟩ : ∃ S, S = compress KW H0 (bs ++ padOf bs.length) := ⟨_, rfl⟩
      rw [← hS] at HD hcall hi37'
      have HD4 : Hid (∀ Y, Y = bs → bytesOf S.list = digest Y) := HD.out
      have hone' : Hid (∀ v ∈ S.list.map U, v.oneCell' = true) := mapU_one _
      have hB0 : Blk w8 w.heap.size A 37 := hb0.below hbe8 (by omega)
      have hB1 : Blk w8 (w.heap.size + 1) C 44 := hb1.below hbe8 (by omega)
      have hBN : Blk w8 (w.heap.size + 1 + 1) (zB 32) 26 := hbN.below hbe8 (by omega)
      have hbeR : Below w.heap.size w w8 := hbe.trans (hbe8.mono (by omega))
      have hr37 : w8.rangeAt w.heap.size 0 A := hB0.range
      have hr44 : w8.rangeAt (w.heap.size + 1) 0 C := hB1.range
      clear hS HD hcell hZl hO8 hb8 hbe7 hB7 hO7 hbe6 hbe8 hXl6 hXl HX hb0 hb1 hbN hbe hsz6 hszr hbeK
      go_wp2_with (first
        | ((with_reducible refine wpL_load 37 w.heap.size 0 A _ ?_ hr37 Tryd.underlying37 ?_ hi37 ?_); (rfl); (rfl); (simp only [Act.put, List.setIfInBounds_toArray, List.set_cons_zero, List.set_cons_succ]))
        | ((with_reducible refine wpL_load 44 (w.heap.size + 1) 0 C _ ?_ hr44 Tryd.underlying44 ?_ hi44 ?_); (rfl); (rfl); (simp only [Act.put, List.setIfInBounds_toArray, List.set_cons_zero, List.set_cons_succ])))
      refine hcall.out.mono ?_
      rintro e w5 ⟨rfl, hb5⟩
      have hB5 : Blk w5 w.heap.size A 37 := Blk.below hB0 hb5 hB0.lt
      have hth5 : w5.there w.heap.size 0 (S.list.map U).length := hB5.there 0 8 (by rw [hAl]; exact (by decide : 0 + 8 ≤ 8))
      have hB6 := Blk.setCells (S.list.map U) 0 hB5 (by rw [hAl]; exact (by decide : 0 + 8 ≤ 8))
      rw [show over A 0 (S.list.map U) = S.list.map U by simp [over, St.list, hAl]] at hB6
      have hN6 := (Blk.below hBN hb5 hBN.lt).setCells_ne w.heap.size (by omega) 0 (S.list.map U)
      have hbe6 : Below w.heap.size w (w5.setCells w.heap.size 0 (S.list.map U)) := Below.setCells (hbeR.trans (hb5.mono hbeR.size)) (b := w.heap.size) (Nat.le_refl _) 0 (S.list.map U)
      clear hB5 hb5 hr37 hr44 hcall hBN hB0 hB1 hbeR
      go_upto_region 9 with (first
        | ((with_reducible refine wpL_store 37 w.heap.size 0 (S.list.map U) ?_ ?_ hth5 hi37' hone'.out ?_); (rfl); (rfl); (simp only [Act.put])))
      generalize w5.setCells w.heap.size 0 (S.list.map U) = V at *
      clear hth5 hone'
      go_wp2
      have hbl : (bytesOf S.list).length = 32 := bytesOf_length _
      have hsl : S.list.length = 8 := rfl
      have hget := bytesOf_get S.list
      have HG : Hid (∀ k, k < 32 → (bytesOf S.list)[k]? = some ((S.list.getD (k / 4) 0 >>> (24 - 8 * (k % 4))).setWidth 8)) := fun k hk => hget k (by rw [hsl]; omega)
      clear hget
      have hMlt := hB6.lt
      have hMlt2 := hN6.lt
      have hbeD : Below w.heap.size w (V.alloc (.cells (zB 32).toArray 26)) := hbe6.alloc (by omega) _
      have hBND : Blk (V.alloc (.cells (zB 32).toArray 26)) (w.heap.size + 1 + 1) (zB 32) 26 := hN6.alloc _
      have hBMD : Blk (V.alloc (.cells (zB 32).toArray 26)) w.heap.size (S.list.map U) 37 := hB6.alloc _
      have hBD : Blk (V.alloc (.cells (zB 32).toArray 26)) V.heap.size ((outB (bytesOf S.list) 0).map B8) 26 := by
        have : (outB (bytesOf S.list) 0).map B8 = zB 32 := by unfold outB zB; rw [List.take_zero, List.nil_append]
        rw [this]; exact Blk.new _ _ _
      generalize V.alloc (.cells (zB 32).toArray 26) = W9 at *
      obtain ⟨D, hDD⟩ : ∃ D, D = V.heap.size := ⟨_, rfl⟩
      rw [← hDD] at hBD hMlt hMlt2
      simp only [← hDD]
      clear hB6 hN6 hbe6 hDD
      go_loopw [9] (fun i wr => ∃ k : Nat, i = .int .i64 k ∧ k ≤ 32 ∧ Blk wr D ((outB (bytesOf S.list) k).map B8) 26 ∧ Only D W9 wr) (fun i _ => 32 - (intOf i).toNat)
      case atStart => exact ⟨0, rfl, by omega, hBD, Only.refl _ _⟩
      case round =>
        obtain ⟨k, rfl, hk, hBk, ho⟩ := hrel
        by_cases hlt : k < 32
        · have e0 : (0 : Int) ≤ (k : Int) := by omega
          have e1 : (k : Int) < 32 := by omega
          obtain ⟨q, hq⟩ : ∃ q, q = k / 4 := ⟨_, rfl⟩
          obtain ⟨r, hr⟩ : ∃ r, r = k % 4 := ⟨_, rfl⟩
          have hqi : (k : Int) / 4 = (q : Int) := by omega
          have hqn : k / 4 = q := by omega
          have hri : (k : Int) % 4 = (r : Int) := by omega
          have hq8 : q < 8 := by omega
          have hr4 : r < 4 := by omega
          have hy := HG.out k hlt
          rw [← hq, ← hr] at hy
          have hB37 := ho.blk hBMD (by omega)
          have c0 := hB37.cellU (j := q) (by rw [hsl]; omega)
          have f0 := hBk.frozen k
          have c1 := hBk.cellB (j := k) (by rw [outB_length _ _ hbl hk]; omega)
          have hB2 := hBk.set k (B8 ((S.list.getD q 0 >>> (24 - 8 * r)).setWidth 8))
          rw [set_mapB, outB_set _ _ hbl hlt _ hy] at hB2
          have ho2 := ho.setCell k (B8 ((S.list.getD q 0 >>> (24 - 8 * r)).setWidth 8))
          generalize S.list.getD q 0 = x at *
          generalize (outB (bytesOf S.list) k).getD k 0 = y0 at c1
          have g0 : (0 : Int) ≤ (q : Int) := by omega
          have g1 : (q : Int) < 8 := by omega
          have w0 : IntKind.i64.wrap (8 * (r : Int)) = 8 * (r : Int) := by rw [IntKind.wrap_i64]; omega
          have w1 : IntKind.i64.wrap (24 - 8 * (r : Int)) = 24 - 8 * (r : Int) := by rw [IntKind.wrap_i64]; omega
          obtain ⟨c, hc⟩ : ∃ c, c = 24 - 8 * r := ⟨_, rfl⟩
          have hci : 24 - 8 * (r : Int) = (c : Int) := by omega
          have g3 : (c : Int) ≤ 32 := by omega
          rw [← hc] at hB2 ho2 hy
          rw [hci] at w1
          clear hy HG hBk ho hB37 hq hr hc
          go_wp2
          go_roundw
          case rel => exact ⟨k + 1, by go_num, by omega, hB2, ho2⟩
          case measure => simp [intOf]; omega
        · have hk32 : k = 32 := by omega
          subst hk32
          rw [outB_all _ hbl] at hBk
          have HDf := HD4.out bs rfl
          have hDl := digest_length bs
          rw [HDf] at hBk
          clear HDf HG HD4 hlt hk
          obtain ⟨E, hE⟩ : ∃ E, E = digest bs := ⟨_, rfl⟩
          have HE : Hid (∀ Y, Y = bs → digest Y = E) := by rintro Y rfl; exact hE.symm
          rw [← hE] at hBk hDl
          clear hE
          have e1 : ¬ ((32 : Nat) : Int) < 32 := by omega
          have hi26 : (Tryd.prog.info? 26).map (·.size) = some (E.map B8).length := by rw [List.length_map, hDl]; exact size26
          have hrD := hBk.range
          have hBR := ho.blk hBND (by omega)
          have hth := hBR.there 0 (E.map B8).length (by rw [List.length_map, hDl, zB_length]; omega)
          have hbr := Blk.setCells (E.map B8) 0 hBR (by rw [List.length_map, hDl, zB_length]; omega)
          rw [show over (zB 32) 0 (E.map B8) = E.map B8 by simp [over, zB, hDl]] at hbr
          have hbf := Below.setCells (hbeD.trans (ho.below (by omega) hbeD.size)) (b := w.heap.size + 1 + 1) (by omega) 0 (E.map B8)
          have hone : Hid (∀ v ∈ E.map B8, v.oneCell' = true) := mapB_one _
          go_wp2_with (first
            | ((with_reducible refine wpL_load 26 D 0 (E.map B8) _ ?_ hrD Tryd.underlying26 ?_ hi26 ?_); (rfl); (rfl); (simp only [Act.put, List.setIfInBounds_toArray, List.set_cons_zero, List.set_cons_succ]))
            | ((with_reducible refine wpL_store 26 (w.heap.size + 1 + 1) 0 (E.map B8) ?_ ?_ hth hi26 hone.out ?_); (rfl); (rfl); (simp only [Act.put])))
          exact bodyPost_ret (results_array Tryd.results20 rfl hbr Tryd.underlying26 rfl hi26) rfl ⟨by rw [HE.out _ rfl], hbf⟩
end Go.Proofs.YtpgckbjcacagdaaDoor
