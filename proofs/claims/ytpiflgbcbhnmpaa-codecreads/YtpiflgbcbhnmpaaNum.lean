/- The bytes of a number: seven bits each. -/
import Derived.Test.YtpiflgbcbhnmpaaBase
import Derived.Laws.Cover3
/- The bytes of a number: seven bits each. -/
namespace Go.Proofs.Ytpiflgbcbhnmpaa
open Go.RowKit
/-- A number's bytes. -/
def sev (n : Nat) : List Nat := if h : n < 128 then [n] else (n % 128 + 128) :: sev (n / 128)
termination_by n
decreasing_by omega
theorem sev_lt {n : Nat} (h : n < 128) : sev n = [n] := by rw [sev, dif_pos h]
theorem sev_ge {n : Nat} (h : ¬ n < 128) : sev n = (n % 128 + 128) :: sev (n / 128) := by rw [sev, dif_neg h]
theorem sev_length : ∀ (k n : Nat), n < 128 ^ k → 0 < k → (sev n).length ≤ k
  | 0, _, _, h => by omega
  | k + 1, n, hn, _ => by
    by_cases h : n < 128
    · rw [sev_lt h]; simp
    · rw [sev_ge h]
      have hk : 0 < k := by
        rcases Nat.eq_zero_or_pos k with rfl | h'
        · omega
        · exact h'
      have := sev_length k (n / 128) (by rw [Nat.pow_succ] at hn; omega) hk
      simp; omega
theorem sev_len10 {n : Nat} (h : n < 18446744073709551616) : (sev n).length ≤ 10 := sev_length 10 n (by omega) (by omega)
theorem sev_byte : ∀ (n : Nat), ∀ x ∈ sev n, x < 256 := by
  intro n
  induction n using Nat.strongRecOn with
  | ind n ih =>
    intro x hx
    by_cases h : n < 128
    · rw [sev_lt h] at hx; simp at hx; omega
    · rw [sev_ge h] at hx
      simp at hx
      rcases hx with rfl | hx
      · omega
      · exact ih (n / 128) (by omega) x hx
/-- byte(n) | 128. -/
theorem or128 : ∀ k : Fin 256, bits .or .u8 (k.val : Int) 128 = ((k.val % 128 + 128 : Nat) : Int) := by decide +kernel
theorem bits_or128 (n : Nat) : bits .or .u8 ((n : Int) % 256) 128 = (n : Int) % 128 + 128 := by
  have e3 := or128 ⟨n % 256, by omega⟩
  have e4 : n % 256 % 128 = n % 128 := by omega
  have e5 : ((n % 256 : Nat) : Int) = (n : Int) % 256 := by omega
  simp only [e4, e5] at e3
  rw [e3]; simp
attribute [local go_sem ↓] bits_or128
/-- What a function that makes bytes answers. -/
def OutB (w : World) (base : Nat) (L : List Nat) (e : Ending) (w' : World) : Prop := ∃ p N cap, N = L.length ∧ e = .returned (.slice p N cap) ∧ OwnB w' base (.slice p N cap) L ∧ Below base w w'
def natOf : Value → Nat
  | .int _ n => n.toNat
  | _ => 0
set_option maxHeartbeats 1000000 in
theorem appendSevens_any (n : Nat) (hn : n < 18446744073709551616) (xs : List Nat) (base : Nat) (p : Option Addr) (M cap : Nat) (w : World) (hM : M = xs.length) (ho : OwnB w base (.slice p M cap) xs) (hbase : base ≤ w.heap.size) (hsz : M < 1000000000000) :
    Calls Try.prog 44 #[.slice p M cap, .int .u64 (n : Int)] w fun e w' => OutB w base (xs ++ sev n) e w' := by
  have hl10 := sev_len10 hn
  go_enter Try.func44, Try.ntmps44
  go_wp2
  go_loopw [0, 1] (fun v nv wr => ∃ p N c ys m, v = .slice p N c ∧ nv = .int .u64 (m : Nat) ∧ m < 18446744073709551616 ∧ Hid (N = ys.length) ∧ N ≤ M + 10 ∧ Hid (xs ++ sev n = ys ++ sev m) ∧ Hid (OwnB wr base (.slice p N c) ys) ∧ Below base w wr) (fun _ nv _ => natOf nv)
  case atStart => exact ⟨p, M, cap, xs, n, rfl, rfl, hn, hM, by omega, rfl, ho, Below.refl _ _⟩
  case round =>
    obtain ⟨p, N, c, ys, m, rfl, rfl, hm, hN, hNM, he, HO, hbe⟩ := hrel
    clear ho
    have hszr := hbe.size
    have hsy : ys.length + (sev m).length ≤ M + 10 := by have := congrArg List.length he.out; simp at this; omega
    by_cases h128 : m < 128
    · have e1 : ¬ (128 : Int) ≤ (m : Int) := by omega
      have e2 : (m : Int) % 256 = (m : Int) := by omega
      have hB5 : BytesAt (wr.alloc (.cells #[Value.int .u8 (m : Int)] 5)) (.slice (some ⟨wr.heap.size, 0, none⟩) 1 1) [m] := bytes_one _ _ m rfl
      have hO5 : OwnB (wr.alloc (.cells #[Value.int .u8 (m : Int)] 5)) base (.slice p N c) ys := HO.out.below ((Below.refl _ _).alloc (Nat.le_refl _) _)
      have hbe5 : Below base w (wr.alloc (.cells #[Value.int .u8 (m : Int)] 5)) := hbe.alloc (by omega) _
      rw [sev_lt h128] at he
      have hN5 : ys.length + [m].length = N + 1 := by have := hN.out; simp; omega
      have hNN : N + 1 ≤ 1099511627776 := by omega
      clear HO hsy
      go_wp2_with (first
        | ((with_reducible refine wpL_append base (.slice p N c) (.slice (some ⟨wr.heap.size, 0, none⟩) 1 1) ys [m] (N + 1) hN5 ?_ ?_ hO5 hB5 hNN (by simp; omega) ?_); (rfl); (rfl); (intro pm cm w5 hO6 hb6); (simp only [Act.put, List.setIfInBounds_toArray, List.set_cons_zero, List.set_cons_succ])))
      go_ret
      rw [he.out]
      exact ⟨pm, N + 1, cm, by have := hN.out; simp; omega, rfl, hO6, hbe5.trans hb6⟩
    · have e1 : (128 : Int) ≤ (m : Int) := by omega
      have hB5 : BytesAt (wr.alloc (.cells #[Value.int .u8 ((m : Int) % 128 + 128)] 5)) (.slice (some ⟨wr.heap.size, 0, none⟩) 1 1) [m % 128 + 128] := bytes_one _ _ _ (by simp [By])
      have hO5 : OwnB (wr.alloc (.cells #[Value.int .u8 ((m : Int) % 128 + 128)] 5)) base (.slice p N c) ys := HO.out.below ((Below.refl _ _).alloc (Nat.le_refl _) _)
      have hbe5 : Below base w (wr.alloc (.cells #[Value.int .u8 ((m : Int) % 128 + 128)] 5)) := hbe.alloc (by omega) _
      rw [sev_ge h128] at he hsy
      have hN5 : ys.length + [m % 128 + 128].length = N + 1 := by have := hN.out; simp; omega
      have hNN : N + 1 ≤ 1099511627776 := by omega
      have hNe : N + 1 ≤ M + 10 := by have := hN.out; simp at hsy; omega
      clear HO hsy
      go_wp2_with (first
        | ((with_reducible refine wpL_append base (.slice p N c) (.slice (some ⟨wr.heap.size, 0, none⟩) 1 1) ys [m % 128 + 128] (N + 1) hN5 ?_ ?_ hO5 hB5 hNN (by simp; omega) ?_); (rfl); (rfl); (intro pm cm w5 hO6 hb6); (simp only [Act.put, List.setIfInBounds_toArray, List.set_cons_zero, List.set_cons_succ])))
      go_roundw
      case rel => exact ⟨pm, N + 1, cm, ys ++ [m % 128 + 128], m / 128, rfl, by simp, by omega, by have := hN.out; show _ = _; simp; omega, hNe, by rw [List.append_assoc]; exact he, hO6, hbe5.trans hb6⟩
      case measure => simp [natOf]; omega
end Go.Proofs.Ytpiflgbcbhnmpaa
/- Number, Signed and what they call, the program's and the reference's. -/
namespace Go.Proofs.Ytpiflgbcbhnmpaa
open Go.RowKit
theorem OutB.mono {w : World} {base B : Nat} {L : List Nat} {e : Ending} {w' : World} (h : OutB w B L e w') (hb : base ≤ B) : OutB w base L e w' := by
  obtain ⟨p, N, cap, hN, he, ho, hbe⟩ := h
  exact ⟨p, N, cap, hN, he, ho.mono hb, hbe.mono hb⟩
theorem run_eqlNil (w : World) (p : Option Addr) (n c : Nat) : (binOp .eql 23 (.slice p n c) (.slice none 0 0)).run Try.prog w = .ok (.bool p.isNone) w := by
  simp only [binOp]
  have := run_equal_slice_nil (P := Try.prog) w 23 5 p n c Try.underlying23
  simp [go_sem, this]
attribute [local go_sem ↓] run_eqlNil
set_option maxRecDepth 100000 in
theorem clone_any (bs : List Nat) (p : Option Addr) (M cap : Nat) (w : World) (hB : BytesAt w (.slice p M cap) bs) (hM : M = bs.length) (hsz : M < 1000000000000) :
    Calls Try.prog 45 #[.slice p M cap] w fun e w' => OutB w w.heap.size bs e w' := by
  rcases p with _ | ⟨pb, po, ps⟩
  · have hM0 : M = 0 ∧ cap = 0 := by
      obtain ⟨p', c', he, hc, hz, _⟩ := hB
      simp at he
      obtain ⟨rfl, h1, rfl⟩ := he
      have := hz rfl
      omega
    obtain ⟨rfl, rfl⟩ := hM0
    have : bs = [] := List.eq_nil_of_length_eq_zero hM.symm
    subst this
    clear hM hsz hB
    go_enter Try.func45, Try.ntmps45
    go_wp2
    go_ret
    exact ⟨none, 0, 0, rfl, rfl, OwnB.nil _ _, Below.refl _ _⟩
  · have hO5 := own_empty w
    have hB5 : BytesAt (w.alloc (.cells #[] 5)) (.slice (some ⟨pb, po, ps⟩) M cap) bs := hB.below ((Below.refl _ _).alloc (Nat.le_refl _) _)
    have hN5 : ([] : List Nat).length + bs.length = M := by simp; omega
    have hNN : M ≤ 1099511627776 := by omega
    have HM : Hid (M = bs.length) := hM
    clear hM hB
    go_enter Try.func45, Try.ntmps45
    go_wp2_with (first
        | ((with_reducible refine wpL_append w.heap.size (.slice (some ⟨w.heap.size, 0, none⟩) 0 0) (.slice (some ⟨pb, po, ps⟩) M cap) [] bs M hN5 ?_ ?_ hO5 hB5 hNN (by simp) ?_); (rfl); (rfl); (intro pm cm w5 hO6 hb6); (simp only [Act.put, List.setIfInBounds_toArray, List.set_cons_zero, List.set_cons_succ])))
    go_ret
    exact ⟨pm, M, cm, HM.out, rfl, hO6, ((Below.refl _ _).alloc (Nat.le_refl _) _).trans hb6⟩
theorem cat_nil (bs : List Nat) (n : Nat) : bs ++ sev n = bs ++ sev n := rfl
set_option maxRecDepth 100000 in
set_option maxHeartbeats 1000000 in
theorem refNumber_any (n : Nat) (hn : n < 18446744073709551616) (bs : List Nat) (p : Option Addr) (M cap : Nat) (w : World) (hM : M = bs.length) (hB : BytesAt w (.slice p M cap) bs) (hsz : M < 1000000000000) :
    Calls Try.prog 46 #[.slice p M cap, .int .u64 (n : Int)] w fun e w' => OutB w w.heap.size (bs ++ sev n) e w' := by
  have hl10 := sev_len10 hn
  have hN5 : ([] : List Nat).length + bs.length = M := by simp; omega
  have hNN : M ≤ 1099511627776 := by omega
  have hO5 := OwnB.nil w w.heap.size
  have HM : Hid (M = bs.length) := hM
  clear hM
  go_enter Try.func46, Try.ntmps46
  go_wp2_with (first
        | ((with_reducible refine wpL_append w.heap.size (.slice none 0 0) (.slice p M cap) [] bs M hN5 ?_ ?_ hO5 hB hNN (by simp) ?_); (rfl); (rfl); (intro pm cm w5 hO6 hb6); (simp only [Act.put, List.setIfInBounds_toArray, List.set_cons_zero, List.set_cons_succ])))
  obtain ⟨base, hbase⟩ : ∃ base, base = w.heap.size := ⟨_, rfl⟩
  rw [← hbase] at hO6 hb6
  rw [List.nil_append] at hO6
  have hbs : base ≤ w.heap.size := by omega
  have Hbase : Hid (base = w.heap.size) := hbase
  clear hbase hB hO5
  go_loopw [5, 1] (fun v nv wr => ∃ p N c ys m, v = .slice p N c ∧ nv = .int .u64 (m : Nat) ∧ m < 18446744073709551616 ∧ Hid (N = ys.length) ∧ N ≤ M + 10 ∧ Hid (bs ++ sev n = ys ++ sev m) ∧ Hid (OwnB wr base (.slice p N c) ys) ∧ Below base w wr) (fun _ nv _ => natOf nv)
  case atStart => exact ⟨pm, M, cm, bs, n, rfl, rfl, hn, HM, by omega, rfl, hO6, hb6⟩
  case round =>
    obtain ⟨p, N, c, ys, m, rfl, rfl, hm, hN, hNM, he, HO, hbe⟩ := hrel
    clear hO6
    have hszr := hbe.size
    have hsy : ys.length + (sev m).length ≤ M + 10 := by have h1 := congrArg List.length he.out; have := HM.out; simp at h1; omega
    by_cases h128 : m < 128
    · have e1 : ¬ (128 : Int) ≤ (m : Int) := by omega
      have e2 : (m : Int) % 256 = (m : Int) := by omega
      have hB5 : BytesAt (wr.alloc (.cells #[Value.int .u8 (m : Int)] 5)) (.slice (some ⟨wr.heap.size, 0, none⟩) 1 1) [m] := bytes_one _ _ m rfl
      have hO5 : OwnB (wr.alloc (.cells #[Value.int .u8 (m : Int)] 5)) base (.slice p N c) ys := HO.out.below ((Below.refl _ _).alloc (Nat.le_refl _) _)
      have hbe5 : Below base w (wr.alloc (.cells #[Value.int .u8 (m : Int)] 5)) := hbe.alloc (by omega) _
      rw [sev_lt h128] at he
      have hN5 : ys.length + [m].length = N + 1 := by have := hN.out; simp; omega
      have hNN : N + 1 ≤ 1099511627776 := by omega
      clear HO hsy
      go_wp2_with (first
        | ((with_reducible refine wpL_append base (.slice p N c) (.slice (some ⟨wr.heap.size, 0, none⟩) 1 1) ys [m] (N + 1) hN5 ?_ ?_ hO5 hB5 hNN (by simp; omega) ?_); (rfl); (rfl); (intro pm cm w5 hO6 hb6); (simp only [Act.put, List.setIfInBounds_toArray, List.set_cons_zero, List.set_cons_succ])))
      go_ret
      rw [he.out, ← Hbase.out]
      exact ⟨pm, N + 1, cm, by have := hN.out; simp; omega, rfl, hO6, hbe5.trans hb6⟩
    · have e1 : (128 : Int) ≤ (m : Int) := by omega
      have e2 : ((m : Int) % 128 + 128) % 256 = (m : Int) % 128 + 128 := by omega
      have hB5 : BytesAt (wr.alloc (.cells #[Value.int .u8 ((m : Int) % 128 + 128)] 5)) (.slice (some ⟨wr.heap.size, 0, none⟩) 1 1) [m % 128 + 128] := bytes_one _ _ _ (by simp [By])
      have hO5 : OwnB (wr.alloc (.cells #[Value.int .u8 ((m : Int) % 128 + 128)] 5)) base (.slice p N c) ys := HO.out.below ((Below.refl _ _).alloc (Nat.le_refl _) _)
      have hbe5 : Below base w (wr.alloc (.cells #[Value.int .u8 ((m : Int) % 128 + 128)] 5)) := hbe.alloc (by omega) _
      rw [sev_ge h128] at he hsy
      have hN5 : ys.length + [m % 128 + 128].length = N + 1 := by have := hN.out; simp; omega
      have hNN : N + 1 ≤ 1099511627776 := by omega
      have hNe : N + 1 ≤ M + 10 := by have := hN.out; simp at hsy; omega
      clear HO hsy
      go_wp2_with (first
        | ((with_reducible refine wpL_append base (.slice p N c) (.slice (some ⟨wr.heap.size, 0, none⟩) 1 1) ys [m % 128 + 128] (N + 1) hN5 ?_ ?_ hO5 hB5 hNN (by simp; omega) ?_); (rfl); (rfl); (intro pm cm w5 hO6 hb6); (simp only [Act.put, List.setIfInBounds_toArray, List.set_cons_zero, List.set_cons_succ])))
      go_roundw
      case rel => exact ⟨pm, N + 1, cm, ys ++ [m % 128 + 128], m / 128, rfl, by simp, by omega, by have := hN.out; show _ = _; simp; omega, hNe, by rw [List.append_assoc]; exact he, hO6, hbe5.trans hb6⟩
      case measure => simp [natOf]; omega
end Go.Proofs.Ytpiflgbcbhnmpaa
