/- What the reference's Sum answers: SHA-256. -/
import Derived.Test.YtpgckbjcacagdaaDoorRefWords
import Derived.Test.YtpgckbjcacagdaaDoorApp
import Derived.Test.YtpgckbjcacagdaaDoorNilWalk
import Derived.Test.YtpgckbjcacagdaaDoorRefBlock
namespace Go.Proofs.YtpgckbjcacagdaaDoor
open Go.RowKit
attribute [local go_sem] run_add_U run_xor_U run_and_U run_or_U run_not_U run_shr_U run_shl_U convBU convUB
attribute [local go_sem] match_U match_B run_cells_U run_cells_B run_store_U run_store_B
attribute [local go_sem ↓] storeAt_U storeAt_B
attribute [local go_sem ↓] zv44 zv37 zv26

/-- One byte in a new row. -/
theorem bytes_one (w : World) (v : Value) (x : Byte) (hv : v = B8 x) : BytesAt (w.alloc (.cells #[v] 5)) (.slice (some ⟨w.heap.size, 0, none⟩) 1 1) [x] := by
  refine ⟨_, 1, rfl, by simp, (fun h => by cases h), fun _ => ⟨w.heap.size, 0, rfl, fun i hi => ?_⟩⟩
  obtain rfl : i = 0 := by simpa using hi
  rw [cell_of_row _ _ _ _ _ _ (heap_alloc_last w _), hv]
  rfl

/-- append(s, x), one byte more. -/
theorem wpL_append1 {ops : Array Oper} {rest : List Oper} {Q : Exit → Act → World → Prop} {a : Act} {w : World} {dd : Option Tmp} {s x : Operand} {tt : TypeId} {pos : String} {af : Array Edge} (base : Nat) (v : Value) (xs : List Byte) (y : Byte) (N q : Nat)
    (hN : xs.length = N) (hs : a.eval s = v) (hx : a.eval x = .slice (some ⟨q, 0, none⟩) 1 1) (ho : OwnB w base v xs) (hb : BytesAt w (.slice (some ⟨q, 0, none⟩) 1 1) [y]) (hsz : N < 1099511627776) (hbase : base ≤ w.heap.size)
    (h : ∀ p cap w', OwnB w' base (.slice p (N + 1) cap) (xs ++ [y]) → Below base w w' → wpList Tryd.prog ops Q rest (a.put dd (.slice p (N + 1) cap)) w') :
    wpList Tryd.prog ops Q ({ dst := dd, op := .call { callee := .builtin .append, args := #[s, x], argTypes := #[29, 29] }, type := tt, pos := pos, after := af, guard := none } :: rest) a w := by
  subst hN
  refine wpL_append base v _ xs [y] hs hx ho hb (by simp; omega) hbase ?_
  intro p cap w' ho _ hbe
  exact h p cap w' ho hbe
def slLen : Value → Nat
  | .slice _ n _ => n
  | _ => 0
theorem lenB_take (m k : Nat) (hk : k < 8) : (lenB m 8).take (k + 1) = (lenB m 8).take k ++ [BitVec.ofNat 8 (m / 2 ^ (56 - 8 * k))] := by
  obtain rfl | rfl | rfl | rfl | rfl | rfl | rfl | rfl : k = 0 ∨ k = 1 ∨ k = 2 ∨ k = 3 ∨ k = 4 ∨ k = 5 ∨ k = 6 ∨ k = 7 := by omega
  all_goals rfl

theorem bytesOf_get : ∀ (ws : List Word) (k : Nat), k < 4 * ws.length → (bytesOf ws)[k]? = some ((ws.getD (k / 4) 0 >>> (24 - 8 * (k % 4))).setWidth 8)
  | [], k, h => by simp at h
  | x :: r, k, h => by
    show (bytes4 x ++ bytesOf r)[k]? = _
    have h4l : (bytes4 x).length = 4 := rfl
    rcases Nat.lt_or_ge k 4 with h4 | h4
    · obtain rfl | rfl | rfl | rfl : k = 0 ∨ k = 1 ∨ k = 2 ∨ k = 3 := by omega
      all_goals simp [bytes4]
    · obtain ⟨q, rfl⟩ : ∃ q, k = q + 4 := ⟨k - 4, by omega⟩
      rw [List.length_cons] at h
      rw [List.getElem?_append_right (by rw [h4l]; omega), h4l, Nat.add_sub_cancel, bytesOf_get r q (by omega)]
      rw [show (q + 4) / 4 = q / 4 + 1 by omega, show (q + 4) % 4 = q % 4 by omega]
      simp
/-- The 32 bytes when k are written. -/
def outB (l : List Byte) (k : Nat) : List Byte := l.take k ++ List.replicate (32 - k) 0
theorem outB_length (l : List Byte) (k : Nat) (hl : l.length = 32) (hk : k ≤ 32) : (outB l k).length = 32 := by simp [outB, hl]; omega
theorem outB_set (l : List Byte) (k : Nat) (hl : l.length = 32) (hk : k < 32) (y : Byte) (hy : l[k]? = some y) : (outB l k).set k y = outB l (k + 1) := by
  unfold outB
  have h1 : (l.take k).length = k := by rw [List.length_take]; omega
  rw [List.take_add_one, hy, show 32 - k = (32 - (k + 1)) + 1 by omega, List.replicate_succ]
  conv => lhs; arg 2; rw [← h1]
  rw [List.set_append_right _ _ (Nat.le_refl _)]
  simp
theorem outB_all (l : List Byte) (hl : l.length = 32) : outB l 32 = l := by simp [outB, List.take_of_length_le (Nat.le_of_eq hl)]
theorem run_quo4 (w : World) (k : Nat) (h : k < 32) : (binOp .quo 3 (.int .i64 (k : Int)) (.int .i64 4)).run Tryd.prog w = .ok (.int .i64 ((k / 4 : Nat) : Int)) w := by
  simp [binOp, Op.intDiv]
  rw [IntKind.wrap_i64]; omega
attribute [local go_sem ↓] run_quo4
set_option maxRecDepth 100000 in
set_option maxHeartbeats 4000000 in
theorem refSum_any (bs : List Byte) (p : Option Addr) (cap : Nat) (w : World) (hB : BytesAt w (.slice p bs.length cap) bs) (hsz : bs.length ≤ 68719476736) :
    Calls Tryd.prog 12 #[.slice p bs.length cap] w fun e w' => e = .returned (.agg ((digest bs).map B8).toArray) ∧ Below w.heap.size w w' := by
  obtain ⟨A, hA⟩ : ∃ A : List Value, A = H0.list.map U := ⟨_, rfl⟩
  obtain ⟨C, hC⟩ : ∃ C : List Value, C = KW.map U := ⟨_, rfl⟩
  have hAl : A.length = 8 := by rw [hA]; rfl
  have hCl : C.length = 64 := by rw [hC]; rfl
  have hoA : Hid (∀ v ∈ A, v.oneCell' = true) := by rw [hA]; exact mapU_one _
  have hoC : Hid (∀ v ∈ C, v.oneCell' = true) := by rw [hC]; exact mapU_one _
  have hi37 : (Tryd.prog.info? 37).map (·.size) = some A.length := by rw [hAl]; exact size37
  have hi44 : (Tryd.prog.info? 44).map (·.size) = some C.length := by rw [hCl]; exact size44
  have hwords : Hid (∀ W, Calls Tryd.prog 24 #[] W fun e w' => e = .returned (.tuple #[.agg A.toArray, .agg C.toArray]) ∧ Below W.heap.size W w') := fun W => by rw [hA, hC]; exact words24 W
  have HA : Hid (∀ X, X = H0.list.map U → X = A) := by rintro X rfl; rw [hA]
  have HC : Hid (∀ X, X = KW.map U → X = C) := by rintro X rfl; rw [hC]
  have HB : Hid (BytesAt w (.slice p bs.length cap) bs) := hB
  clear hA hC hB
  go_enter Tryd.func12, Tryd.ntmps12
  go_wp2_with fail
  refine (hwords.out _).mono ?_
  rintro e w1 ⟨rfl, hb1⟩
  have hN1 : Blk w1 w.heap.size (zB 32) 26 := (Blk.new w (zB 32) 26).below hb1 (by simp)
  have hbe1 : Below w.heap.size w w1 := ((Below.refl _ _).alloc (Nat.le_refl _) _).trans (hb1.mono (by simp))
  have hlt1 := hN1.lt
  have hb0 : Blk ((w1.alloc (.cells (zU 8).toArray 37)).alloc (.cells (zU 64).toArray 44)) w1.heap.size (zU 8) 37 := (Blk.new _ _ _).alloc _
  have hb1 : Blk ((w1.alloc (.cells (zU 8).toArray 37)).alloc (.cells (zU 64).toArray 44)) (w1.heap.size + 1) (zU 64) 44 := Blk.new' _ _ _ _ (by simp)
  have hbN : Blk ((w1.alloc (.cells (zU 8).toArray 37)).alloc (.cells (zU 64).toArray 44)) w.heap.size (zB 32) 26 := (hN1.alloc _).alloc _
  have hbe : Below w.heap.size w ((w1.alloc (.cells (zU 8).toArray 37)).alloc (.cells (zU 64).toArray 44)) := (hbe1.alloc (by omega) _).alloc (by simp; omega) _
  have ht0 := hb0.there 0 A.length (by rw [hAl, zU_length]; omega)
  have hb0' := Blk.setCells A 0 hb0 (by rw [hAl, zU_length]; omega)
  rw [show over (zU 8) 0 A = A by simp [over, zU, hAl]] at hb0'
  have hb1' := hb1.setCells_ne w1.heap.size (by omega) 0 A
  have hbN' := hbN.setCells_ne w1.heap.size (by omega) 0 A
  have hbe' := Below.setCells hbe (b := w1.heap.size) (by omega) 0 A
  have ht1 := hb1'.there 0 C.length (by rw [hCl, zU_length]; omega)
  have hb1'' := Blk.setCells C 0 hb1' (by rw [hCl, zU_length]; omega)
  rw [show over (zU 64) 0 C = C by simp [over, zU, hCl]] at hb1''
  have hb0'' := hb0'.setCells_ne (w1.heap.size + 1) (by omega) 0 C
  have hbN'' := hbN'.setCells_ne (w1.heap.size + 1) (by omega) 0 C
  have hbe'' := Below.setCells hbe' (b := w1.heap.size + 1) (by omega) 0 C
  have hsz2 : ((((w1.alloc (.cells (zU 8).toArray 37)).alloc (.cells (zU 64).toArray 44)).setCells w1.heap.size 0 A).setCells (w1.heap.size + 1) 0 C).heap.size = w1.heap.size + 2 := by
    rw [size_setCells, size_setCells]; simp
  go_upto_region 3 with (first
    | ((with_reducible refine wpL_store 37 w1.heap.size 0 A ?_ ?_ ht0 hi37 hoA.out ?_); (rfl); (rfl); (simp only [Act.put]))
    | ((with_reducible refine wpL_store 44 (w1.heap.size + 1) 0 C ?_ ?_ ht1 hi44 hoC.out ?_); (rfl); (rfl); (simp only [Act.put])))
  have hBW := HB.out.below hbe''
  clear hbe' hbN' hb1' hb0' hbe hbN hb1 hb0 ht0 ht1 hN1 hbe1 hwords
  generalize (((w1.alloc (.cells (zU 8).toArray 37)).alloc (.cells (zU 64).toArray 44)).setCells w1.heap.size 0 A).setCells (w1.heap.size + 1) 0 C = W at *
  generalize w1.heap.size = M at *
  have hpos : w.heap.size < M := by have := hbe''.size; omega
  have hWM : W.heap.size = M + 2 := hsz2
  go_upto_region 4 with (first
    | ((with_reducible refine wpL_append0 (M + 2) (.slice p bs.length cap) bs ?_ ?_ hBW (by omega) (by omega) ?_); (rfl); (rfl); (intro pi ci w2 hO2 hb2); (simp only [Act.put, List.setIfInBounds_toArray, List.set_cons_zero, List.set_cons_succ])))
  have hsz3 := hb2.size
  have hO3 : OwnB (w2.alloc (.cells #[Value.int .u8 128] 5)) (M + 2) (.slice pi bs.length ci) bs := hO2.below ((Below.refl _ _).alloc (Nat.le_refl _) _)
  have hB3 : BytesAt (w2.alloc (.cells #[Value.int .u8 128] 5)) (.slice (some ⟨w2.heap.size, 0, none⟩) 1 1) [128] := bytes_one _ _ 128 rfl
  have hbe3 : Below (M + 2) W (w2.alloc (.cells #[Value.int .u8 128] 5)) := hb2.alloc (by omega) _
  go_wp2_with (first
    | ((with_reducible refine wpL_append1 (M + 2) (.slice pi bs.length ci) bs 128 bs.length w2.heap.size rfl ?_ ?_ hO3 hB3 (by omega) (by simp; omega) ?_); (rfl); (rfl); (intro pj cj w3 hO4 hb4); (simp only [Act.put, List.setIfInBounds_toArray, List.set_cons_zero, List.set_cons_succ])))
  have hbe4 : Below (M + 2) W w3 := hbe3.trans hb4
  clear hbe3 hb4 hB3 hO3 hb2 hO2 hsz3
  obtain ⟨n, hn⟩ : ∃ n, n = bs.length := ⟨_, rfl⟩
  have HN : Hid (n = bs.length) := hn
  rw [← hn] at hO4 hsz
  simp only [← hn]
  clear hn
  obtain ⟨fr, hfr⟩ : ∃ fr, fr = freeOf n := ⟨_, rfl⟩
  have hbd := freeOf_bd n
  rw [← hfr] at hbd
  obtain ⟨hbd1, hbd2, hbd3⟩ := hbd
  have HFR : Hid (fr = freeOf n) := hfr
  clear hfr
  go_loopw [5] (fun v wr => ∃ k N pj cj, v = .slice pj N cj ∧ N = n + 1 + k ∧ k ≤ fr - 9 ∧ Hid (OwnB wr (M + 2) (.slice pj N cj) (bs ++ 128 :: List.replicate k 0)) ∧ Below (M + 2) W wr) (fun v _ => n + fr - slLen v)
  case atStart => exact ⟨0, n + 1, pj, cj, rfl, by omega, by omega, hO4, hbe4⟩
  case round =>
    obtain ⟨k, N, pk, ck, rfl, hNk, hk, HO, hbe⟩ := hrel
    clear hO4 hbe4
    have hszr := hbe.size
    by_cases hlt : k < fr - 9
    · have e1 : ¬ (N : Int) % 64 = 56 := by omega
      have hO5 : OwnB (wr.alloc (.cells #[Value.int .u8 0] 5)) (M + 2) (.slice pk N ck) (bs ++ 128 :: List.replicate k 0) := HO.out.below ((Below.refl _ _).alloc (Nat.le_refl _) _)
      have hB5 : BytesAt (wr.alloc (.cells #[Value.int .u8 0] 5)) (.slice (some ⟨wr.heap.size, 0, none⟩) 1 1) [0] := bytes_one _ _ 0 rfl
      have hN5 : (bs ++ 128 :: List.replicate k (0 : Byte)).length = N := by simp; have := HN.out; omega
      have hbe5 : Below (M + 2) W (wr.alloc (.cells #[Value.int .u8 0] 5)) := hbe.alloc (by omega) _
      clear HO
      go_wp2_with (first
        | ((with_reducible refine wpL_append1 (M + 2) (.slice pk N ck) (bs ++ 128 :: List.replicate k 0) 0 N wr.heap.size hN5 ?_ ?_ hO5 hB5 (by omega) (by simp; omega) ?_); (rfl); (rfl); (intro pm cm w5 hO6 hb6); (simp only [Act.put, List.setIfInBounds_toArray, List.set_cons_zero, List.set_cons_succ])))
      go_roundw
      case rel =>
        refine ⟨k + 1, N + 1, pm, cm, rfl, by omega, by omega, ?_, hbe5.trans hb6⟩
        rw [List.replicate_succ', ← List.cons_append, ← List.append_assoc]
        exact hO6
      case measure => simp only [slLen]; omega
    · have e1 : (N : Int) % 64 = 56 := by omega
      have hkk : k = fr - 9 := by omega
      subst hkk
      have hs8 : 0 ≤ (n : Int) := by omega
      go_wp2
      have hXl : (bs ++ 128 :: List.replicate (fr - 9) (0 : Byte)).length = N := by simp; have := HN.out; omega
      have HX : Hid (∀ X : List Byte, X = bs ++ 128 :: List.replicate (fr - 9) (0 : Byte) → X ++ lenB (8 * n) 8 = bs ++ padOf bs.length) := by
        rintro X rfl
        unfold padOf
        rw [← HN.out, ← HFR.out, show fr - 1 - 8 = fr - 9 by omega, List.append_assoc, List.cons_append]
      clear e1 hlt hk
      have hN2 : N = n + fr - 8 := by omega
      obtain ⟨X, hX⟩ : ∃ X : List Byte, X = bs ++ 128 :: List.replicate (fr - 9) (0 : Byte) := ⟨_, rfl⟩
      have HX2 := HX.out X hX
      rw [← hX] at HO hXl
      clear hX HX hNk
      have HX : Hid (X ++ lenB (8 * n) 8 = bs ++ padOf bs.length) := HX2
      clear HX2
      go_loopw [7, 5] (fun i v wr => ∃ k N' pj cj, i = .int .i64 (k : Nat) ∧ v = .slice pj N' cj ∧ N' = N + k ∧ k ≤ 8 ∧ Hid (OwnB wr (M + 2) (.slice pj N' cj) (X ++ (lenB (8 * n) 8).take k)) ∧ Below (M + 2) W wr) (fun i _ _ => 8 - (intOf i).toNat)
      case atStart => exact ⟨0, N, pk, ck, rfl, rfl, rfl, by omega, by rw [List.take_zero, List.append_nil]; exact HO, hbe⟩
      case round =>
        rename_i wr0 _ _ _
        obtain ⟨k, N', pq, cq, rfl, rfl, hNk, hk, HO2, hbe2⟩ := hrel
        clear HO hbe hszr
        have hszr := hbe2.size
        by_cases hlt : k < 8
        · have e0 : (0 : Int) ≤ (k : Int) := by omega
          have e1 : (k : Int) < 8 := by omega
          have w0 : IntKind.i64.wrap (8 * (k : Int)) = 8 * (k : Int) := by rw [IntKind.wrap_i64]; omega
          have w1 : IntKind.i64.wrap (56 - 8 * (k : Int)) = 56 - 8 * (k : Int) := by rw [IntKind.wrap_i64]; omega
          have w2 : (0 : Int) ≤ 56 - 8 * (k : Int) := by omega
          have w3 : (56 - 8 * (k : Int)).toNat = 56 - 8 * k := by omega
          have hv : Value.int .u8 ((n : Int) * 8 / 2 ^ (56 - 8 * k) % 256) = B8 (BitVec.ofNat 8 (8 * n / 2 ^ (56 - 8 * k))) := by
            rw [B8_of]; congr 2; simp [Int.mul_comm]
          have hO5 : OwnB (wr.alloc (.cells #[Value.int .u8 ((n : Int) * 8 / 2 ^ (56 - 8 * k) % 256)] 5)) (M + 2) (.slice pq N' cq) (X ++ (lenB (8 * n) 8).take k) := HO2.out.below ((Below.refl _ _).alloc (Nat.le_refl _) _)
          have hB5 : BytesAt (wr.alloc (.cells #[Value.int .u8 ((n : Int) * 8 / 2 ^ (56 - 8 * k) % 256)] 5)) (.slice (some ⟨wr.heap.size, 0, none⟩) 1 1) [BitVec.ofNat 8 (8 * n / 2 ^ (56 - 8 * k))] := bytes_one _ _ _ hv
          have hN5 : (X ++ (lenB (8 * n) 8).take k).length = N' := by rw [List.length_append, List.length_take, lenB_length]; omega
          have hbe5 : Below (M + 2) W (wr.alloc (.cells #[Value.int .u8 ((n : Int) * 8 / 2 ^ (56 - 8 * k) % 256)] 5)) := hbe2.alloc (by omega) _
          have HT : Hid (X ++ (lenB (8 * n) 8).take (k + 1) = X ++ (lenB (8 * n) 8).take k ++ [BitVec.ofNat 8 (8 * n / 2 ^ (56 - 8 * k))]) := by
            rw [lenB_take _ _ hlt, ← List.append_assoc]; exact rfl
          have HNk : Hid (N' = N + k) := hNk
          have hsN : N' < 1099511627776 := by omega
          clear HO2 hNk hv
          go_wp2_with (first
            | ((with_reducible refine wpL_append1 (M + 2) (.slice pq N' cq) (X ++ (lenB (8 * n) 8).take k) _ N' wr.heap.size hN5 ?_ ?_ hO5 hB5 hsN (by simp; omega) ?_); (rfl); (rfl); (intro pm cm w5 hO6 hb6); (simp only [Act.put, List.setIfInBounds_toArray, List.set_cons_zero, List.set_cons_succ])))
          go_roundw
          case rel =>
            refine ⟨k + 1, N' + 1, pm, cm, by go_num, rfl, by have := HNk.out; omega, by omega, ?_, hbe5.trans hb6⟩
            rw [HT.out]
            exact hO6
          case measure => simp [intOf]; omega
        · have hk8 : k = 8 := by omega
          subst hk8
          rw [List.take_of_length_le (by rw [lenB_length]; omega), HX.out] at HO2
          have e1 : ¬ ((8 : Nat) : Int) < 8 := by omega
          have hNT : N' = n + fr := by omega
          have hpl : (bs ++ padOf bs.length).length = N' := by
            rw [List.length_append, padOf_length, ← HN.out, ← HFR.out]; omega
          have HD : Hid (∀ Y, Y = bs → bytesOf (hashTo (bs ++ padOf bs.length) ((bs ++ padOf bs.length).length / 64)).list = digest Y) := by rintro Y rfl; rfl
          clear HX hXl hNk hN2 hlt hk
          have hex : ∃ (Z : List Byte) (T : Nat), Z.length = N' ∧ N' = 64 * T ∧ Hid (OwnB wr (M + 2) (.slice pq N' cq) Z) ∧ Hid (∀ Y, Y = bs → bytesOf (hashTo Z T).list = digest Y) := by
            have e : (bs ++ padOf bs.length).length / 64 = (n + fr) / 64 := by rw [hpl, hNT]
            exact ⟨bs ++ padOf bs.length, (n + fr) / 64, hpl, by omega, HO2, by have h := HD.out; rw [e] at h; exact h⟩
          have hN9 : 9 ≤ N' := by omega
          have hNs : N' ≤ 68719476736 + 72 := by omega
          clear HD hpl HO2
          obtain ⟨Z, T, hZl, hNT', HO2, HD⟩ := hex
          subst hNT'
          obtain ⟨sb, so, hpq, hcq, hsb, hsb2, hcell⟩ : ∃ sb so, pq = some ⟨sb, so, none⟩ ∧ 64 * T ≤ cq ∧ M + 2 ≤ sb ∧ sb < wr.heap.size ∧ Hid (∀ i, i < 64 * T → wr.cell? ⟨sb, so + i, none⟩ = some (B8 (Z.getD i 0))) := by
            obtain ⟨p1, c1, he, hc1, _, hcl⟩ := HO2.out.bytes
            injection he with he1 he2 he3
            subst he1 he3
            obtain ⟨sb, so, rfl, hcell⟩ := hcl (by intro h; rw [h] at hZl; simp at hZl; omega)
            have := HO2.out.block sb rfl
            exact ⟨sb, so, rfl, by omega, this.1, this.2, by rw [← hZl]; exact hcell⟩
          subst hpq
          have hB0 : Blk wr M A 37 := hb0''.below hbe2 (by omega)
          have hB1 : Blk wr (M + 1) C 44 := hb1''.below hbe2 (by omega)
          have hBN : Blk wr w.heap.size (zB 32) 26 := hbN''.below hbe2 (by omega)
          have hbeR : Below w.heap.size w wr := hbe''.trans (hbe2.mono (by omega))
          clear hNT hbd3 HO2 hbe2 hbe'' hbN'' hb0'' hb1'' hszr
          go_wp2
          generalize wr = w0 at *
          go_loopw [8] (fun i wr => ∃ j : Nat, i = .int .i64 (64 * (j : Int)) ∧ j ≤ T ∧ Blk wr M ((hashTo Z j).list.map U) 37 ∧ Only M w0 wr) (fun i _ => 64 * T - (intOf i).toNat)
          case atStart => exact ⟨0, rfl, by omega, by have := HA.out _ rfl; show Blk w0 M (H0.list.map U) 37; rw [this]; exact hB0, Only.refl _ _⟩
          case round =>
            obtain ⟨j, rfl, hj, hBj, ho⟩ := hrel
            by_cases hlt : j < T
            · have e1 : 64 * (j : Int) < 64 * (T : Int) := by omega
              have w1 : IntKind.i64.wrap (64 * (j : Int) + 64) = 64 * (j : Int) + 64 := by rw [IntKind.wrap_i64]; omega
              have q0 : (0 : Int) ≤ 64 * (j : Int) := by omega
              have q1 : (0 : Int) ≤ 64 * (j : Int) + 64 := by omega
              have q2 : 64 * (j : Int) ≤ 64 * (j : Int) + 64 := by omega
              have q3 : 64 * (j : Int) + 64 ≤ (cq : Int) := by omega
              have t0 : (64 * (j : Int)).toNat = 64 * j := by omega
              have t1 : (64 * (j : Int) + 64).toNat = 64 * j + 64 := by omega
              have t2 : 64 * j + 64 - 64 * j = 64 := by omega
              have hr37 : wr.drew.rangeAt M 0 ((hashTo Z j).list.map U) := hBj.drew.range
              have hr44 : wr.drew.rangeAt (M + 1) 0 C := (ho.blk hB1 (by omega)).drew.range
              have hi37' : (Tryd.prog.info? 37).map (·.size) = some ((hashTo Z (j + 1)).list.map U).length := size37
              have hi37 : (Tryd.prog.info? 37).map (·.size) = some ((hashTo Z j).list.map U).length := size37
              have hcall : Hid (Calls Tryd.prog 25 #[.agg ((hashTo Z j).list.map U).toArray, .agg C.toArray, .slice (some ⟨sb, so + 64 * j, none⟩) 64 (cq - 64 * j)] wr.drew fun e w' => e = .returned (.agg ((hashTo Z (j + 1)).list.map U).toArray) ∧ Below wr.drew.heap.size wr.drew w') := by
                have := block_any (hashTo Z j) KW rfl ((Z.drop (64 * j)).take 64) sb (so + 64 * j) (cq - 64 * j) wr.drew (fun i hi => by
                  have hc := hcell.out (64 * j + i) (by omega)
                  have : wr.drew.cell? ⟨sb, so + 64 * j + i, none⟩ = w0.cell? ⟨sb, so + 64 * j + i, none⟩ := ho.drew.cell (p := ⟨sb, so + 64 * j + i, none⟩) hsb2 (by show sb ≠ M; omega)
                  rw [this, Nat.add_assoc, hc]
                  simp [hi])
                rw [HC.out _ rfl] at this
                exact this
              have hone' : Hid (∀ v ∈ (hashTo Z (j + 1)).list.map U, v.oneCell' = true) := mapU_one _
              have HS : Hid (∀ X, X = hashTo Z j → X = hashTo Z j) := fun _ h => h
              obtain ⟨S, hS⟩ : ∃ S, S = hashTo Z j := ⟨_, rfl⟩
              obtain ⟨S', hS'⟩ : ∃ S', S' = hashTo Z (j + 1) := ⟨_, rfl⟩
              have HS' : Hid (hashTo Z (j + 1) = S') := hS'.symm
              rw [← hS, ← hS'] at hcall
              rw [← hS'] at hone' hi37'
              rw [← hS] at hi37 hr37 hBj
              clear hS hS' HS
              go_upto_region 15 with (fail)
              refine wp_region_noPanic ?_
              refine wp_region_any (by kernel_rfl) ?_
              change wpAny _ _ _ _ _ _ _ (World.drew _)
              refine take_op (i := 2) (.slice (some ⟨sb, so, none⟩) (64 * T) cq) (by exact rfl) (by kernel_rfl) (by kernel_rfl) (by kernel_rfl) (fun _ _ _ h => h) (fun w => by go_simp) ?_
              simp only [Act.put, List.setIfInBounds_toArray, List.set_cons_zero, List.set_cons_succ]
              refine take_op (i := 3) (.int .i64 (64 * (j : Int))) (by exact rfl) (by kernel_rfl) (by kernel_rfl) (by kernel_rfl) (fun _ _ _ h => h) (fun w => by go_simp) ?_
              simp only [Act.put, List.setIfInBounds_toArray, List.set_cons_zero, List.set_cons_succ]
              refine take_op (i := 4) (.int .i64 (64 * (j : Int))) (by exact rfl) (by kernel_rfl) (by kernel_rfl) (by kernel_rfl) (fun _ _ _ h => h) (fun w => by go_simp) ?_
              simp only [Act.put, List.setIfInBounds_toArray, List.set_cons_zero, List.set_cons_succ]
              refine take_op (i := 5) (.int .i64 (64 * (j : Int) + 64)) (by exact rfl) (by kernel_rfl) (by kernel_rfl) (by kernel_rfl) (fun _ _ _ h => h) (fun w => by go_simp) ?_
              simp only [Act.put, List.setIfInBounds_toArray, List.set_cons_zero, List.set_cons_succ]
              refine take_op (i := 6) (.slice (some ⟨sb, so + 64 * j, none⟩) 64 (cq - 64 * j)) (by exact rfl) (by kernel_rfl) (by kernel_rfl) (by kernel_rfl) (fun _ _ _ h => h) (fun w => by go_simp; omega) ?_
              simp only [Act.put, List.setIfInBounds_toArray, List.set_cons_zero, List.set_cons_succ]
              refine wpAny_ready (rs := [0, 1]) (by kernel_rfl) (by simp) ?_
              refine ready_load 37 M 0 (S.list.map U) _ (by exact rfl) (by go_simp) hr37 Tryd.underlying37 rfl hi37 ?_ ?_
              · simp only [Act.put, List.setIfInBounds_toArray, List.set_cons_zero, List.set_cons_succ]
                refine wpAny_ready (rs := [1]) (by kernel_rfl) (by simp) ?_
                refine ready_load 44 (M + 1) 0 C _ (by exact rfl) (by go_simp) hr44 Tryd.underlying44 rfl hi44 ?_ AllReady.nil
                simp only [Act.put, List.setIfInBounds_toArray, List.set_cons_zero, List.set_cons_succ]
                refine wpAny_ready (rs := [7]) (by kernel_rfl) (by simp) ?_
                refine ready_call 25 _ _ #[.agg (S.list.map U).toArray, .agg C.toArray, .slice (some ⟨sb, so + 64 * j, none⟩) 64 (cq - 64 * j)] (by exact rfl) (by go_simp) (by go_simp) ?_ AllReady.nil
                refine hcall.out.mono ?_
                rintro e w5 ⟨rfl, hb5⟩
                refine ⟨_, rfl, ?_⟩
                simp only [Act.put, List.setIfInBounds_toArray, List.set_cons_zero, List.set_cons_succ]
                have hB5 : Blk w5 M (S.list.map U) 37 := Blk.below hBj.drew hb5 hBj.lt
                have hth5 : w5.there M 0 (S'.list.map U).length := hB5.there 0 8 (by exact (by decide : 0 + 8 ≤ 8))
                have hB6 := Blk.setCells (S'.list.map U) 0 hB5 (by exact (by decide : 0 + 8 ≤ 8))
                rw [show over (S.list.map U) 0 (S'.list.map U) = S'.list.map U by simp [over, St.list]] at hB6
                have ho6 := (ho.drew.trans (Only.of_below hb5)).setCells 0 (S'.list.map U)
                refine wpAny_ready (rs := [8]) (by kernel_rfl) (by simp) ?_
                refine ready_store 37 M 0 (S'.list.map U) (by exact rfl) (by go_simp) (by go_simp) hth5 hi37' hone'.out ?_ AllReady.nil
                simp only [Act.put]
                refine wpAny_done (by kernel_rfl) (NoPanic.normal ?_) _
                go_wp2
                go_roundw
                case rel => exact ⟨j + 1, by go_num, by omega, by rw [HS'.out]; exact hB6, ho6⟩
                case measure => simp [intOf]; omega
              · refine ready_load 44 (M + 1) 0 C _ (by exact rfl) (by go_simp) hr44 Tryd.underlying44 rfl hi44 ?_ AllReady.nil
                simp only [Act.put, List.setIfInBounds_toArray, List.set_cons_zero, List.set_cons_succ]
                refine wpAny_ready (rs := [0]) (by kernel_rfl) (by simp) ?_
                refine ready_load 37 M 0 (S.list.map U) _ (by exact rfl) (by go_simp) hr37 Tryd.underlying37 rfl hi37 ?_ AllReady.nil
                simp only [Act.put, List.setIfInBounds_toArray, List.set_cons_zero, List.set_cons_succ]
                refine wpAny_ready (rs := [7]) (by kernel_rfl) (by simp) ?_
                refine ready_call 25 _ _ #[.agg (S.list.map U).toArray, .agg C.toArray, .slice (some ⟨sb, so + 64 * j, none⟩) 64 (cq - 64 * j)] (by exact rfl) (by go_simp) (by go_simp) ?_ AllReady.nil
                refine hcall.out.mono ?_
                rintro e w5 ⟨rfl, hb5⟩
                refine ⟨_, rfl, ?_⟩
                simp only [Act.put, List.setIfInBounds_toArray, List.set_cons_zero, List.set_cons_succ]
                have hB5 : Blk w5 M (S.list.map U) 37 := Blk.below hBj.drew hb5 hBj.lt
                have hth5 : w5.there M 0 (S'.list.map U).length := hB5.there 0 8 (by exact (by decide : 0 + 8 ≤ 8))
                have hB6 := Blk.setCells (S'.list.map U) 0 hB5 (by exact (by decide : 0 + 8 ≤ 8))
                rw [show over (S.list.map U) 0 (S'.list.map U) = S'.list.map U by simp [over, St.list]] at hB6
                have ho6 := (ho.drew.trans (Only.of_below hb5)).setCells 0 (S'.list.map U)
                refine wpAny_ready (rs := [8]) (by kernel_rfl) (by simp) ?_
                refine ready_store 37 M 0 (S'.list.map U) (by exact rfl) (by go_simp) (by go_simp) hth5 hi37' hone'.out ?_ AllReady.nil
                simp only [Act.put]
                refine wpAny_done (by kernel_rfl) (NoPanic.normal ?_) _
                go_wp2
                go_roundw
                case rel => exact ⟨j + 1, by go_num, by omega, by rw [HS'.out]; exact hB6, ho6⟩
                case measure => simp [intOf]; omega
            · have hjT : j = T := by omega
              subst hjT
              have e1 : ¬ 64 * (j : Int) < 64 * (j : Int) := by omega
              have HD2 : Hid (∃ S, S = hashTo Z j ∧ ∀ Y, Y = bs → bytesOf S.list = digest Y) := ⟨_, rfl, HD.out⟩
              have hbe9 : Below w.heap.size w wr := hbeR.trans (ho.below (by omega) (by omega))
              have hBN9 := ho.blk hBN (by omega)
              obtain ⟨S, hS, HD3⟩ := HD2.out
              rw [← hS] at hBj
              have HD4 : Hid (∀ Y, Y = bs → bytesOf S.list = digest Y) := HD3
              clear HD3 HD2 HD hS hlt hj hcell
              go_wp2
              have hbl : (bytesOf S.list).length = 32 := bytesOf_length _
              have hsl : S.list.length = 8 := rfl
              have hget := bytesOf_get S.list
              have HG : Hid (∀ k, k < 32 → (bytesOf S.list)[k]? = some ((S.list.getD (k / 4) 0 >>> (24 - 8 * (k % 4))).setWidth 8)) := fun k hk => hget k (by rw [hsl]; omega)
              clear hget
              have hMlt := hBj.lt
              have hbeD : Below w.heap.size w (wr.alloc (.cells (zB 32).toArray 26)) := hbe9.alloc (by omega) _
              have hBND : Blk (wr.alloc (.cells (zB 32).toArray 26)) w.heap.size (zB 32) 26 := hBN9.alloc _
              have hBMD : Blk (wr.alloc (.cells (zB 32).toArray 26)) M (S.list.map U) 37 := hBj.alloc _
              have hBD : Blk (wr.alloc (.cells (zB 32).toArray 26)) wr.heap.size ((outB (bytesOf S.list) 0).map B8) 26 := by
                have : (outB (bytesOf S.list) 0).map B8 = zB 32 := by unfold outB zB; rw [List.take_zero, List.nil_append]
                rw [this]; exact Blk.new _ _ _
              generalize wr.alloc (.cells (zB 32).toArray 26) = W9 at *
              obtain ⟨D, hDD⟩ : ∃ D, D = wr.heap.size := ⟨_, rfl⟩
              rw [← hDD] at hBD hMlt
              simp only [← hDD]
              clear hBj ho hbe9 hBN9 hB0 hB1 hBN hbeR e1 hDD
              go_loopw [10] (fun i wr => ∃ k : Nat, i = .int .i64 k ∧ k ≤ 32 ∧ Blk wr D ((outB (bytesOf S.list) k).map B8) 26 ∧ Only D W9 wr) (fun i _ => 32 - (intOf i).toNat)
              case atStart => exact ⟨0, rfl, by omega, hBD, Only.refl _ _⟩
              case round =>
                obtain ⟨k, rfl, hk, hBk, ho⟩ := hrel
                by_cases hlt : k < 32
                · have e0 : (0 : Int) ≤ (k : Int) := by omega
                  have e1 : (k : Int) < 32 := by omega
                  obtain ⟨q, hq⟩ : ∃ q, q = k / 4 := ⟨_, rfl⟩
                  obtain ⟨r, hr⟩ : ∃ r, r = k % 4 := ⟨_, rfl⟩
                  have hqi : (k : Int) / 4 = (q : Int) := by omega
                  have hqn : k / 4 = q := by omega
                  have hri : (k : Int) % 4 = (r : Int) := by omega
                  have hq8 : q < 8 := by omega
                  have hr4 : r < 4 := by omega
                  have hy := HG.out k hlt
                  rw [← hq, ← hr] at hy
                  have hB37 := ho.blk hBMD (by omega)
                  have c0 := hB37.cellU (j := q) (by rw [hsl]; omega)
                  have f0 := hBk.frozen k
                  have c1 := hBk.cellB (j := k) (by rw [outB_length _ _ hbl hk]; omega)
                  have hB2 := hBk.set k (B8 ((S.list.getD q 0 >>> (24 - 8 * r)).setWidth 8))
                  rw [set_mapB, outB_set _ _ hbl hlt _ hy] at hB2
                  have ho2 := ho.setCell k (B8 ((S.list.getD q 0 >>> (24 - 8 * r)).setWidth 8))
                  generalize S.list.getD q 0 = x at *
                  generalize (outB (bytesOf S.list) k).getD k 0 = y0 at c1
                  have g0 : (0 : Int) ≤ (q : Int) := by omega
                  have g1 : (q : Int) < 8 := by omega
                  have w0 : IntKind.i64.wrap (8 * (r : Int)) = 8 * (r : Int) := by rw [IntKind.wrap_i64]; omega
                  have w1 : IntKind.i64.wrap (24 - 8 * (r : Int)) = 24 - 8 * (r : Int) := by rw [IntKind.wrap_i64]; omega
                  obtain ⟨c, hc⟩ : ∃ c, c = 24 - 8 * r := ⟨_, rfl⟩
                  have hci : 24 - 8 * (r : Int) = (c : Int) := by omega
                  have g3 : (c : Int) ≤ 32 := by omega
                  rw [← hc] at hB2 ho2 hy
                  rw [hci] at w1
                  clear hy HG hBk ho hB37 hq hr hc
                  go_wp2
                  go_roundw
                  case rel => exact ⟨k + 1, by go_num, by omega, hB2, ho2⟩
                  case measure => simp [intOf]; omega
                · have hk32 : k = 32 := by omega
                  subst hk32
                  rw [outB_all _ hbl] at hBk
                  have HDf := HD4.out bs rfl
                  have hDl := digest_length bs
                  rw [HDf] at hBk
                  clear HDf HG HD4 hlt hk
                  obtain ⟨E, hE⟩ : ∃ E, E = digest bs := ⟨_, rfl⟩
                  have HE : Hid (∀ Y, Y = bs → digest Y = E) := by rintro Y rfl; exact hE.symm
                  rw [← hE] at hBk hDl
                  clear hE
                  have e1 : ¬ ((32 : Nat) : Int) < 32 := by omega
                  have hi26 : (Tryd.prog.info? 26).map (·.size) = some (E.map B8).length := by rw [List.length_map, hDl]; exact size26
                  have hrD := hBk.range
                  have hBR := ho.blk hBND (by omega)
                  have hth := hBR.there 0 (E.map B8).length (by rw [List.length_map, hDl, zB_length]; omega)
                  have hbr := Blk.setCells (E.map B8) 0 hBR (by rw [List.length_map, hDl, zB_length]; omega)
                  rw [show over (zB 32) 0 (E.map B8) = E.map B8 by simp [over, zB, hDl]] at hbr
                  have hbf := Below.setCells (hbeD.trans (ho.below (by omega) hbeD.size)) (b := w.heap.size) (Nat.le_refl _) 0 (E.map B8)
                  have hone : Hid (∀ v ∈ E.map B8, v.oneCell' = true) := mapB_one _
                  go_wp2_with (first
                    | ((with_reducible refine wpL_load 26 D 0 (E.map B8) _ ?_ hrD Tryd.underlying26 ?_ hi26 ?_); (rfl); (rfl); (simp only [Act.put, List.setIfInBounds_toArray, List.set_cons_zero, List.set_cons_succ]))
                    | ((with_reducible refine wpL_store 26 w.heap.size 0 (E.map B8) ?_ ?_ hth hi26 hone.out ?_); (rfl); (rfl); (simp only [Act.put])))
                  exact bodyPost_ret (results_array Tryd.results12 rfl hbr Tryd.underlying26 rfl hi26) rfl ⟨by rw [HE.out _ rfl], hbf⟩
end Go.Proofs.YtpgckbjcacagdaaDoor
