/- Whole roots. -/
import Derived.Test.YtdfobaggdeoggaaBase
namespace Go.Proofs.Ytdfobaggdeoggaa
open Go.RowKit
theorem wrap_u64 (m : Nat) (h : m < 18446744073709551616) : IntKind.u64.wrap (m : Int) = (m : Int) := by rw [IntKind.wrap_u64]; omega
/-- r is n's root. -/
def IsRoot (n r : Nat) : Prop := r * r ≤ n ∧ n < (r + 1) * (r + 1) ∧ r < 4294967296
theorem sq_lt {a b : Nat} (h : a * a < b * b) : a < b := Nat.lt_of_not_le fun hle => Nat.not_lt.2 (Nat.mul_le_mul hle hle) h
theorem IsRoot.unique {n a b : Nat} (h1 : IsRoot n a) (h2 : IsRoot n b) : a = b := by
  have e1 := sq_lt (Nat.lt_of_le_of_lt h1.1 h2.2.1)
  have e2 := sq_lt (Nat.lt_of_le_of_lt h2.1 h1.2.1)
  omega
theorem or_bit (r k : Nat) (hr : r % 2 ^ (k + 1) = 0) (hs : r + 2 ^ k < 18446744073709551616) : bits .or .u64 (r : Int) ((2 ^ k : Nat) : Int) = ((r + 2 ^ k : Nat) : Int) := by
  have hk : 2 ^ k < 18446744073709551616 := by omega
  have hr' : r < 18446744073709551616 := by omega
  have e1 : (BitVec.ofInt 64 (r : Int)) = BitVec.ofNat 64 r := by apply BitVec.eq_of_toNat_eq; simp
  have e2 : (BitVec.ofInt 64 ((2 ^ k : Nat) : Int)) = BitVec.ofNat 64 (2 ^ k) := by apply BitVec.eq_of_toNat_eq; rw [BitVec.toNat_ofInt, BitVec.toNat_ofNat]; omega
  have e3 : (BitVec.ofNat 64 r ||| BitVec.ofNat 64 (2 ^ k)).toNat = r + 2 ^ k := by
    rw [BitVec.toNat_or, BitVec.toNat_ofNat, BitVec.toNat_ofNat, Nat.mod_eq_of_lt (by omega), Nat.mod_eq_of_lt (by omega)]
    obtain ⟨q, rfl⟩ : ∃ q, r = 2 ^ (k + 1) * q := ⟨r / 2 ^ (k + 1), by have := Nat.div_add_mod r (2 ^ (k + 1)); omega⟩
    exact (Nat.two_pow_add_eq_or_of_lt (by rw [Nat.pow_succ]; have := Nat.two_pow_pos k; omega) q).symm
  show IntKind.u64.wrap (((BitVec.ofInt 64 (r : Int)) ||| (BitVec.ofInt 64 ((2 ^ k : Nat) : Int))).toNat : Int) = _
  rw [e1, e2, e3]
  exact wrap_u64 _ hs
def natOf : Value → Nat
  | .int _ n => n.toNat
  | _ => 0
/-- The round's facts: g is the gap. -/
def RootAt (n r g : Nat) : Prop := r * r ≤ n ∧ n < (r + g) * (r + g) ∧ r + g ≤ 4294967296
theorem sq_fit {x : Nat} (h : x < 4294967296) : x * x < 18446744073709551616 := by
  have := Nat.mul_le_mul (show x ≤ 4294967295 by omega) (show x ≤ 4294967295 by omega)
  omega
theorem next_bit {k r b : Nat} (hb : b = 2 ^ k) (hr : r % 2 ^ (k + 1) = 0) : (b / 2 = 0 ∧ b = 1) ∨ ∃ j, b / 2 = 2 ^ j ∧ b = 2 * (b / 2) ∧ r % 2 ^ (j + 1) = 0 ∧ (r + b) % 2 ^ (j + 1) = 0 := by
  cases k with
  | zero => left; subst hb; decide
  | succ j =>
    right
    have hm : r % 2 ^ (j + 1) = 0 := by
      have h := Nat.mod_mod_of_dvd r (Nat.pow_dvd_pow 2 (show j + 1 ≤ j + 1 + 1 by omega))
      rw [hr] at h
      simpa using h.symm
    refine ⟨j, ?_, ?_, hm, ?_⟩
    · rw [hb, Nat.pow_succ]; omega
    · rw [hb, Nat.pow_succ]; omega
    · rw [hb, Nat.add_mod_right]; exact hm
set_option maxHeartbeats 1000000 in
theorem root_any (n : Nat) (hn : n < 18446744073709551616) (w : World) : Calls Try.prog 22 #[.int .u64 (n : Int)] w fun e w' => ∃ r : Nat, IsRoot n r ∧ e = .returned (.int .u64 (r : Int)) ∧ Below w.heap.size w w' := by
  go_enter Try.func22, Try.ntmps22
  go_wp2
  go_loopw [3, 4] (fun rv bv wr => ∃ r b g : Nat, rv = .int .u64 (r : Int) ∧ bv = .int .u64 (b : Int) ∧ wr = w ∧ b < 4294967296 ∧ r < 4294967296 ∧ Hid (RootAt n r g) ∧ Hid ((b = 0 ∧ g = 1) ∨ ∃ k, b = 2 ^ k ∧ g = 2 * b ∧ r % 2 ^ (k + 1) = 0)) (fun _ bv _ => natOf bv)
  case atStart => exact ⟨0, 2147483648, 4294967296, rfl, rfl, rfl, by omega, by omega, ⟨by omega, by omega, by omega⟩, Or.inr ⟨31, by decide, by decide, by decide⟩⟩
  case round =>
    obtain ⟨r, b, g, rfl, rfl, rfl, hb, hr, HA, HB⟩ := hrel
    by_cases hb0 : b = 0
    · subst hb0
      have hg : g = 1 := by rcases HB.out with ⟨_, h⟩ | ⟨k, h, _⟩ <;> first | omega | (have := Nat.two_pow_pos k; omega)
      subst hg
      go_wp2
      go_ret
      exact ⟨r, ⟨HA.out.1, HA.out.2.1, hr⟩, rfl, Below.refl _ _⟩
    · have hb1 : (0 : Int) < (b : Int) := by omega
      obtain ⟨k, hk, hg, hm⟩ : ∃ k, b = 2 ^ k ∧ g = 2 * b ∧ r % 2 ^ (k + 1) = 0 := by rcases HB.out with ⟨h, _⟩ | h; exact absurd h hb0; exact h
      have hs : r + b < 4294967296 := by have := HA.out.2.2; omega
      have b1 : bits .or .u64 (r : Int) (b : Int) = ((r + b : Nat) : Int) := by rw [hk]; exact or_bit r k hm (by omega)
      obtain ⟨x, hx⟩ : ∃ x, r + b = x := ⟨_, rfl⟩
      rw [hx] at b1
      obtain ⟨y, hy⟩ : ∃ y, x * x = y := ⟨_, rfl⟩
      have hyl : y < 18446744073709551616 := by rw [← hy]; exact sq_fit (by omega)
      have b2 : IntKind.u64.wrap ((x : Int) * (x : Int)) = (y : Int) := by
        have e := wrap_u64 y hyl
        rw [← hy] at e ⊢
        simpa using e
      have HK : Hid (∃ k, b = 2 ^ k ∧ g = 2 * b ∧ r % 2 ^ (k + 1) = 0) := ⟨k, hk, hg, hm⟩
      have HX : Hid (r + b = x ∧ x * x = y ∧ r + b < 4294967296) := ⟨hx, hy, hs⟩
      have hxl : x < 4294967296 := by omega
      clear hk hm hg hx hy hs k HB
      go_wp2
      · obtain ⟨hx, hy, hs⟩ := HX.out
        obtain ⟨k, hk, hg, hm⟩ := HK.out
        have hA := HA.out
        have hA2 : r + g ≤ 4294967296 := hA.2.2
        refine ⟨⟨x, b / 2, b, rfl, by simp, trivial, by omega, hxl, ⟨by omega, ?_, by omega⟩, ?_⟩, by simp [natOf]; omega⟩
        · rw [show x + b = r + g by omega]; exact hA.2.1
        · rcases next_bit hk hm with h | ⟨j, h1, h2, h3, h4⟩
          · exact Or.inl h
          · exact Or.inr ⟨j, h1, h2, hx ▸ h4⟩
      · obtain ⟨hx, hy, hs⟩ := HX.out
        obtain ⟨k, hk, hg, hm⟩ := HK.out
        have hA := HA.out
        refine ⟨⟨r, b / 2, b, rfl, by simp, trivial, by omega, hr, ⟨hA.1, ?_, by omega⟩, ?_⟩, by simp [natOf]; omega⟩
        · rw [hx, hy]; omega
        · rcases next_bit hk hm with h | ⟨j, h1, h2, h3, h4⟩
          · exact Or.inl h
          · exact Or.inr ⟨j, h1, h2, h3⟩
set_option maxHeartbeats 1000000 in
theorem refRoot_any (n : Nat) (hn : n < 18446744073709551616) (w : World) : Calls Try.prog 23 #[.int .u64 (n : Int)] w fun e w' => ∃ r : Nat, IsRoot n r ∧ e = .returned (.int .u64 (r : Int)) ∧ Below w.heap.size w w' := by
  go_enter Try.func23, Try.ntmps23
  go_wp2
  go_loopw [3, 4] (fun lv hv wr => ∃ l g : Nat, lv = .int .u64 (l : Int) ∧ hv = .int .u64 ((l : Int) + (g : Int)) ∧ wr = w ∧ 0 < g ∧ l + g ≤ 4294967296 ∧ Hid (RootAt n l g)) (fun lv hv _ => natOf hv - natOf lv)
  case atStart => exact ⟨0, 4294967296, rfl, rfl, rfl, by omega, by omega, ⟨by omega, by omega, by omega⟩⟩
  case round =>
    obtain ⟨l, g, rfl, rfl, rfl, hg, hl, HA⟩ := hrel
    by_cases hg1 : g = 1
    · subst hg1
      go_wp2
      go_ret
      exact ⟨l, ⟨HA.out.1, HA.out.2.1, by omega⟩, rfl, Below.refl _ _⟩
    · obtain ⟨x, hx⟩ : ∃ x : Nat, l + g / 2 = x := ⟨_, rfl⟩
      obtain ⟨y, hy⟩ : ∃ y, x * x = y := ⟨_, rfl⟩
      have hyl : y < 18446744073709551616 := by rw [← hy]; exact sq_fit (by omega)
      have b2 : IntKind.u64.wrap ((x : Int) * (x : Int)) = (y : Int) := by
        have e := wrap_u64 y hyl
        rw [← hy] at e ⊢
        simpa using e
      have b3 : ((l : Int) + ((l : Int) + (g : Int))) / 2 = (x : Int) := by omega
      have HX : Hid (l + g / 2 = x ∧ x * x = y) := ⟨hx, hy⟩
      have hxl : x < 4294967296 := by omega
      clear hx hy
      go_wp2
      · obtain ⟨hx, hy⟩ := HX.out
        have hA := HA.out
        refine ⟨⟨x, g - g / 2, by rw [b3], by congr 1; omega, trivial, by omega, by omega, ⟨by omega, ?_, by omega⟩⟩, by simp only [natOf]; omega⟩
        rw [show x + (g - g / 2) = l + g by omega]; exact hA.2.1
      · obtain ⟨hx, hy⟩ := HX.out
        have hA := HA.out
        refine ⟨⟨l, g / 2, rfl, by congr 1; omega, trivial, by omega, by omega, ⟨hA.1, ?_, by omega⟩⟩, by simp only [natOf]; omega⟩
        rw [hx, hy]; omega
end Go.Proofs.Ytdfobaggdeoggaa
