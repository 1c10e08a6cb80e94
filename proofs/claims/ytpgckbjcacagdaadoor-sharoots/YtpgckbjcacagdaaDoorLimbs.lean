/- Numbers of twelve limbs: what less answers. -/
import Derived.Test.YtpgckbjcacagdaaDoorSame
import Derived.Test.YtpgckbjcacagdaaDoorRefBlock
namespace Go.Proofs.YtpgckbjcacagdaaDoor
open Go.RowKit
/-- A limb's value. -/
abbrev LV (n : Nat) : Value := .int .u64 (n : Int)
/-- The number that the limbs are, the lowest first. -/
def val : List Nat → Nat
  | [] => 0
  | x :: r => x + 65536 * val r
theorem val_lt : ∀ (l : List Nat), (∀ x ∈ l, x < 65536) → val l < 65536 ^ l.length
  | [], _ => by simp [val]
  | x :: r, h => by
    have h1 := val_lt r (fun y hy => h y (List.mem_cons_of_mem _ hy))
    have h2 := h x (List.mem_cons_self ..)
    rw [List.length_cons, Nat.pow_succ, Nat.mul_comm]
    show x + 65536 * val r < _
    omega
theorem val_append : ∀ (l r : List Nat), val (l ++ r) = val l + 65536 ^ l.length * val r
  | [], r => by simp [val]
  | x :: l, r => by
    show x + 65536 * val (l ++ r) = x + 65536 * val l + 65536 ^ (l.length + 1) * val r
    rw [val_append l r, Nat.pow_succ, Nat.mul_add, Nat.mul_comm (65536 ^ l.length) 65536, Nat.mul_assoc]; omega
theorem val_less (a b : List Nat) (j x y : Nat) (hab : a.length = b.length) (ha : ∀ z ∈ a, z < 65536) (hb : ∀ z ∈ b, z < 65536) (hx : a[j]? = some x) (hy : b[j]? = some y) (hd : a.drop (j + 1) = b.drop (j + 1)) (hn : x ≠ y) :
    (val a < val b) ↔ x < y := by
  have hja : j < a.length := (List.getElem?_eq_some_iff.1 hx).1
  have hjb : j < b.length := by omega
  have ea : val a = val (a.take j) + 65536 ^ j * (x + 65536 * val (a.drop (j + 1))) := by
    conv => lhs; rw [← List.take_append_drop j a, val_append, List.length_take, Nat.min_eq_left (by omega), List.drop_eq_getElem_cons hja]
    rw [(List.getElem?_eq_some_iff.1 hx).2]; rfl
  have eb : val b = val (b.take j) + 65536 ^ j * (y + 65536 * val (a.drop (j + 1))) := by
    conv => lhs; rw [← List.take_append_drop j b, val_append, List.length_take, Nat.min_eq_left (by omega), List.drop_eq_getElem_cons hjb]
    rw [(List.getElem?_eq_some_iff.1 hy).2, hd]; rfl
  have la := val_lt (a.take j) (fun z hz => ha z (List.mem_of_mem_take hz))
  have lb := val_lt (b.take j) (fun z hz => hb z (List.mem_of_mem_take hz))
  rw [List.length_take, Nat.min_eq_left (by omega)] at la lb
  rw [ea, eb]
  generalize val (a.drop (j + 1)) = R at *
  generalize 65536 ^ j = P at *
  generalize val (a.take j) = u at *
  generalize val (b.take j) = v at *
  constructor
  · intro h
    rcases Nat.lt_or_ge x y with h1 | h1
    · exact h1
    · have := Nat.mul_le_mul_left P (show y + 65536 * R + 1 ≤ x + 65536 * R by omega)
      rw [Nat.mul_add, Nat.mul_one] at this
      omega
  · intro h
    have := Nat.mul_le_mul_left P (show x + 65536 * R + 1 ≤ y + 65536 * R by omega)
    rw [Nat.mul_add, Nat.mul_one] at this
    omega
set_option maxHeartbeats 1000000 in
theorem less_any (a b : List Nat) (ha : a.length = 12) (hb : b.length = 12) (hla : ∀ z ∈ a, z < 65536) (hlb : ∀ z ∈ b, z < 65536) (w : World) :
    Calls Tryd.prog 40 #[.agg (a.map LV).toArray, .agg (b.map LV).toArray] w fun e w' => e = .returned (.bool (decide (val a < val b))) ∧ Below w.heap.size w w' := by
  have hv : Hid (∀ j x y, a[j]? = some x → b[j]? = some y → a.drop (j + 1) = b.drop (j + 1) → x ≠ y → ((val a < val b) ↔ x < y)) := fun j x y hx hy hd hn => val_less a b j x y (by omega) hla hlb hx hy hd hn
  have he : Hid (a.drop 0 = b.drop 0 → ¬ val a < val b) := fun h => by rw [List.drop_zero, List.drop_zero] at h; rw [h]; omega
  have hB0 : Blk ((w.alloc (.cells (a.map LV).toArray 67)).alloc (.cells (b.map LV).toArray 67)) w.heap.size (a.map LV) 67 := (Blk.new _ _ _).alloc _
  have hB1 : Blk ((w.alloc (.cells (a.map LV).toArray 67)).alloc (.cells (b.map LV).toArray 67)) (w.heap.size + 1) (b.map LV) 67 := Blk.new' _ _ _ _ (by simp)
  have hbe : Below w.heap.size w ((w.alloc (.cells (a.map LV).toArray 67)).alloc (.cells (b.map LV).toArray 67)) := ((Below.refl _ _).alloc (Nat.le_refl _) _).alloc (by simp) _
  obtain ⟨r, hr⟩ : ∃ r, r = decide (val a < val b) := ⟨_, rfl⟩
  rw [← hr]
  have HR : Hid (r = decide (val a < val b)) := hr
  clear hr
  go_enter Tryd.func40, Tryd.ntmps40
  go_wp2
  generalize (w.alloc (.cells (a.map LV).toArray 67)).alloc (.cells (b.map LV).toArray 67) = W at *
  go_loopw [5] (fun i wr => ∃ k n : Nat, k ≤ 12 ∧ i = .int .i64 ((k : Int) - 1) ∧ Hid (a.drop k = b.drop k) ∧ wr = W.drewN n) (fun i _ => (intOf i + 1).toNat)
  case atStart => exact ⟨12, 0, by omega, rfl, by rw [List.drop_eq_nil_of_le (by omega), List.drop_eq_nil_of_le (by omega)]; exact rfl, rfl⟩
  case round =>
    obtain ⟨k, n, hk, rfl, HD, rfl⟩ := hrel
    by_cases hlt : 0 < k
    · obtain ⟨j, rfl⟩ : ∃ j, k = j + 1 := ⟨k - 1, by omega⟩
      have ei : ((j + 1 : Nat) : Int) - 1 = (j : Int) := by omega
      rw [ei]
      have e0 : (0 : Int) ≤ (j : Int) := by omega
      have e1 : (j : Int) < 12 := by omega
      obtain ⟨x, hx⟩ : ∃ x, a[j]? = some x := ⟨_, List.getElem?_eq_getElem (by omega)⟩
      obtain ⟨y, hy⟩ : ∃ y, b[j]? = some y := ⟨_, List.getElem?_eq_getElem (by omega)⟩
      have c0 : W.cell? ⟨w.heap.size, j, none⟩ = some (.int .u64 (x : Int)) := by rw [hB0.cell]; simp [hx]
      have c1 : W.cell? ⟨w.heap.size + 1, j, none⟩ = some (.int .u64 (y : Int)) := by rw [hB1.cell]; simp [hy]
      have HV : Hid (x ≠ y → ((val a < val b) ↔ x < y)) := hv.out j x y hx hy HD.out
      have HE : Hid (x = y → a.drop j = b.drop j) := fun h => by
        rw [List.drop_eq_getElem_cons (by omega : j < a.length), List.drop_eq_getElem_cons (by omega : j < b.length), HD.out, (List.getElem?_eq_some_iff.1 hx).2, (List.getElem?_eq_some_iff.1 hy).2, h]
      clear hx hy HD hv he
      by_cases hxy : x = y
      · subst hxy
        go_wp2
        go_quiet (fail)
        go_wp2
        go_roundw
        case rel => exact ⟨j, _, by omega, by go_num, HE.out (by simp), rfl⟩
        case measure => simp [intOf]
      · have hne : ¬ (x : Int) = (y : Int) := by omega
        go_wp2
        go_quiet (fail)
        go_wp2
        go_quiet (fail)
        go_wp2
        have hr : r = decide (x < y) := by rw [HR.out]; exact decide_eq_decide.2 (HV.out hxy)
        go_ret
        exact ⟨by rw [hr]; rfl, hbe.trans (by first | exact Below.drewN (Below.refl _ _) _ | exact Below.drewN (Below.drewN (Below.refl _ _) _) _ | exact Below.drewN (Below.drewN (Below.drewN (Below.refl _ _) _) _) _)⟩
    · have hk0 : k = 0 := by omega
      subst hk0
      have hN := he.out HD.out
      have hr : r = false := by rw [HR.out]; simp [hN]
      go_wp2
      go_ret
      exact ⟨by rw [hr]; rfl, hbe.trans (Below.drewN (Below.refl _ _) n)⟩
end Go.Proofs.YtpgckbjcacagdaaDoor
