/- What joinSevens answers. -/
import Derived.Test.YtpiflgbcbhnmpaaSgn
namespace Go.Proofs.Ytpiflgbcbhnmpaa
open Go.RowKit
/-- The number with whose bytes a list begins, from the place i on, where n is what stands ahead; and how many bytes it has. -/
def join : List Nat → Nat → Nat → Option (Nat × Nat)
  | [], _, _ => none
  | x :: r, i, n => if i = 9 ∧ 1 < x then none else if 128 ≤ x then join r (i + 1) (n + x % 128 * 2 ^ (7 * i)) else if x = 0 ∧ 0 < i then none else some (n + x % 128 * 2 ^ (7 * i), i + 1)
theorem step_lt (i n q : Nat) (hi : i ≤ 9) (hn : n < 2 ^ (7 * i)) (hq : q < 128) (h9 : i = 9 → q ≤ 1) : n + q * 2 ^ (7 * i) < 18446744073709551616 ∧ (i ≤ 8 → n + q * 2 ^ (7 * i) < 2 ^ (7 * (i + 1))) := by
  obtain rfl | rfl | rfl | rfl | rfl | rfl | rfl | rfl | rfl | rfl : i = 0 ∨ i = 1 ∨ i = 2 ∨ i = 3 ∨ i = 4 ∨ i = 5 ∨ i = 6 ∨ i = 7 ∨ i = 8 ∨ i = 9 := by omega
  all_goals simp at hn ⊢
  all_goals omega
theorem wrap_u64 (m : Nat) (h : m < 18446744073709551616) : IntKind.u64.wrap (m : Int) = (m : Int) := by
  simp [IntKind.wrap, IntKind.bits, IntKind.signed]; omega
theorem bits_or (i n q : Nat) (hn : n < 2 ^ (7 * i)) (hs : n + q * 2 ^ (7 * i) < 18446744073709551616) : bits .or .u64 (n : Int) ((q * 2 ^ (7 * i) : Nat) : Int) = ((n + q * 2 ^ (7 * i) : Nat) : Int) := by
  have e1 : (BitVec.ofInt 64 (n : Int)) = BitVec.ofNat 64 n := by
    apply BitVec.eq_of_toNat_eq; simp
  have e2 : (BitVec.ofInt 64 ((q * 2 ^ (7 * i) : Nat) : Int)) = BitVec.ofNat 64 (q * 2 ^ (7 * i)) := by
    apply BitVec.eq_of_toNat_eq; rw [BitVec.toNat_ofInt, BitVec.toNat_ofNat]; omega
  have e3 : (BitVec.ofNat 64 n ||| BitVec.ofNat 64 (q * 2 ^ (7 * i))).toNat = n + q * 2 ^ (7 * i) := by
    rw [BitVec.toNat_or, BitVec.toNat_ofNat, BitVec.toNat_ofNat, Nat.mod_eq_of_lt (by omega), Nat.mod_eq_of_lt (by omega), Nat.or_comm]
    have := Nat.two_pow_add_eq_or_of_lt hn q
    rw [Nat.mul_comm q, ← this, Nat.add_comm]
  show IntKind.u64.wrap (((BitVec.ofInt 64 (n : Int)) ||| (BitVec.ofInt 64 ((q * 2 ^ (7 * i) : Nat) : Int))).toNat : Int) = _
  rw [e1, e2, e3]
  exact wrap_u64 _ hs
theorem not128 : ∀ k : Fin 256, bits .andNot .u8 (k.val : Int) 128 = ((k.val % 128 : Nat) : Int) := by decide +kernel
theorem bits_not128 (x : Nat) (hx : x < 256) : bits .andNot .u8 (x : Int) 128 = ((x % 128 : Nat) : Int) := not128 ⟨x, hx⟩
theorem run_shl7 (w : World) (t : TypeId) (k : IntKind) (q i : Nat) (c : Int) (hc : c = 7 * (i : Int)) (hs : q * 2 ^ (7 * i) < 18446744073709551616) (hi : i ≤ 9) : (binOp .shl t (.int .u64 (q : Int)) (.int k c)).run Try.prog w = .ok (.int .u64 ((q * 2 ^ (7 * i) : Nat) : Int)) w := by
  simp only [binOp, Op.shift]
  rw [if_neg (by omega)]
  show Result.ok (Value.int _ _) w = _
  congr 2
  have e : min c.toNat IntKind.u64.bits = 7 * i := by simp [IntKind.bits]; omega
  rw [e]
  have : ((q : Int) * 2 ^ (7 * i)) = ((q * 2 ^ (7 * i) : Nat) : Int) := by push_cast; rfl
  rw [this]
  exact wrap_u64 _ hs
def joinN (bs : List Nat) : Nat := ((join bs 0 0).getD (0, 0)).1
def joinS (bs : List Nat) : Nat := ((join bs 0 0).getD (0, 0)).2
def JoinOk (bs : List Nat) (e : Ending) : Prop := e = .returned (.tuple #[.int .u64 (joinN bs : Int), .int .i64 (joinS bs : Int)])
theorem JoinOk.mk {bs : List Nat} {n s : Nat} {e : Ending} (h : join bs 0 0 = some (n, s)) (he : e = .returned (.tuple #[.int .u64 (n : Int), .int .i64 (s : Int)])) : JoinOk bs e := by
  unfold JoinOk joinN joinS; rw [h]; exact he
theorem JoinOk.no {bs : List Nat} {e : Ending} (h : join bs 0 0 = none) (he : e = .returned (.tuple #[.int .u64 0, .int .i64 0])) : JoinOk bs e := by
  unfold JoinOk joinN joinS; rw [h]; exact he
set_option maxRecDepth 100000 in
set_option maxHeartbeats 1000000 in
theorem joinSevens_any (bs : List Nat) (hbs : ∀ x ∈ bs, x < 256) (p : Option Addr) (M cap : Nat) (w : World) (hM : M = bs.length) (hB : BytesAt w (.slice p M cap) bs) (hsz : M < 100000000000) :
    Calls Try.prog 49 #[.slice p M cap] w fun e w' => JoinOk bs e ∧ w' = w := by
  have HM : Hid (M = bs.length) := hM
  have H0 : Hid (bs ≠ [] → ∃ sb so, p = some ⟨sb, so, none⟩ ∧ ∀ i, i < bs.length → w.cell? ⟨sb, so + i, none⟩ = some (By (bs.getD i 0))) := by
    obtain ⟨p', c', he, _, _, h⟩ := hB
    simp at he
    obtain ⟨rfl, _, rfl⟩ := he
    exact h
  have HX : Hid (∀ x ∈ bs, x < 256) := hbs
  clear hM hB hbs
  go_enter Try.func49, Try.ntmps49
  go_wp2
  go_loopw [4, 9] (fun nv iv wr => ∃ n i : Nat, nv = .int .u64 n ∧ iv = .int .i64 i ∧ i ≤ M ∧ i ≤ 9 ∧ Hid (n < 2 ^ (7 * i)) ∧ Hid (join bs 0 0 = join (bs.drop i) i n) ∧ wr = w) (fun _ iv _ => M - natOf iv)
  case atStart => exact ⟨0, 0, rfl, rfl, by omega, by omega, by show _ < _; simp, rfl, rfl⟩
  case round =>
    obtain ⟨n, i, rfl, rfl, hi, hi9, hn, hj, rfl⟩ := hrel
    by_cases hlt : i < M
    · have hlb : i < bs.length := by have := HM.out; omega
      have hne : bs ≠ [] := by rintro rfl; simp at hlb
      obtain ⟨sb, so, rfl, hcell⟩ := H0.out hne
      have c0 := hcell i hlb
      clear hcell
      obtain ⟨x, hx⟩ : ∃ x, x = bs.getD i 0 := ⟨_, rfl⟩
      rw [← hx] at c0
      have hx256 : x < 256 := HX.out x (by rw [hx, show bs.getD i 0 = bs[i] by simp [hlb]]; exact List.getElem_mem _)
      have hdrop : bs.drop i = x :: bs.drop (i + 1) := by
        rw [List.drop_eq_getElem_cons hlb, hx]; simp [hlb]
      rw [hdrop] at hj
      have hj' := hj.out.trans (join.eq_2 _ _ _ _)
      have HJ : Hid (join bs 0 0 = if i = 9 ∧ 1 < x then none else if 128 ≤ x then join (bs.drop (i + 1)) (i + 1) (n + x % 128 * 2 ^ (7 * i)) else if x = 0 ∧ 0 < i then none else some (n + x % 128 * 2 ^ (7 * i), i + 1)) := hj'
      clear hj hj' hdrop hx hne
      have c0' : wr.cell? ⟨sb, so + i, none⟩ = some (.int .u8 (x : Int)) := c0
      clear c0
      have e0 : (0 : Int) ≤ (i : Int) := by omega
      have e1 : (i : Int) < (M : Int) := by omega
      by_cases hbig : i = 9 ∧ 1 < x
      · have HJ2 : Hid (join bs 0 0 = none) := by rw [HJ.out, if_pos hbig]; exact rfl
        clear HJ
        obtain ⟨rfl, h1x⟩ := hbig
        have f2 : (1 : Int) < (x : Int) := by omega
        have e2 : (9 : Int) < (M : Int) := by omega
        clear e1
        go_wp2
        go_ret2
        exact ⟨JoinOk.no HJ2.out rfl, rfl⟩
      · have hq9 : i = 9 → x % 128 ≤ 1 := by omega
        obtain ⟨hs1, hs2⟩ := step_lt i n (x % 128) hi9 hn.out (by omega) hq9
        have b1 := bits_not128 x hx256
        have b2 : IntKind.u64.wrap (((x % 128 : Nat) : Int) * 2 ^ (7 * i)) = ((x % 128 * 2 ^ (7 * i) : Nat) : Int) := by
          rw [← wrap_u64 (x % 128 * 2 ^ (7 * i)) (by omega)]; congr 1
        have b3 := bits_or i n (x % 128) hn.out hs1
        have HJ2 : Hid (join bs 0 0 = if 128 ≤ x then join (bs.drop (i + 1)) (i + 1) (n + x % 128 * 2 ^ (7 * i)) else if x = 0 ∧ 0 < i then none else some (n + x % 128 * 2 ^ (7 * i), i + 1)) := by rw [HJ.out, if_neg hbig]; exact rfl
        clear HJ
        have HQ : Hid (∃ q, q = x % 128) := ⟨_, rfl⟩
        obtain ⟨Y, hY⟩ : ∃ Y, Y = x % 128 * 2 ^ (7 * i) := ⟨_, rfl⟩
        obtain ⟨Z, hZ⟩ : ∃ Z, Z = n + Y := ⟨_, rfl⟩
        rw [← hY] at hs1 hs2 b3 HJ2
        rw [← hY] at b2
        rw [← hZ] at hs1 hs2 b3 HJ2
        obtain ⟨q, hq⟩ : ∃ q, q = x % 128 := ⟨_, rfl⟩
        rw [← hq] at b1
        rw [← hq] at b2
        have hq128 : q < 128 := by omega
        have q1 : (q : Int) % 18446744073709551616 = (q : Int) := by omega
        have HZ : Hid (i ≤ 8 → Z < 2 ^ (7 * (i + 1))) := hs2
        have HQ0 : Hid (x = 0 → q = 0) := fun h => by rw [hq, h]
        have HY0 : Hid (x = 0 → Y = 0) := fun h => by rw [hY, h]; simp
        have HZ0 : Hid (Z = n + Y) := hZ
        have HN : Hid (n < 2 ^ (7 * i)) := hn
        clear hq hY hZ hs2 hq9 hn HQ
        have f9 : ((i : Int) = 9 ∧ ¬ (1 : Int) < (x : Int)) ∨ ¬ (i : Int) = 9 := by omega
        have w7 : IntKind.i64.wrap (7 * (i : Int)) = 7 * (i : Int) := by rw [IntKind.wrap_i64]; omega
        have h13 : True := trivial
        by_cases h128 : 128 ≤ x
        · have g1 : (128 : Int) ≤ (x : Int) := by omega
          have g9 : ¬ (i : Int) = 9 := by omega
          have HJ3 : Hid (join bs 0 0 = join (bs.drop (i + 1)) (i + 1) Z) := by rw [HJ2.out, if_pos h128]; exact rfl
          clear HJ2 f9
          go_wp2
          go_roundw
          case rel => exact ⟨Z, i + 1, rfl, by go_num, by omega, by omega, HZ.out (by omega), HJ3, trivial⟩
          case measure => simp [natOf]; omega
        · have g1 : ¬ (128 : Int) ≤ (x : Int) := by omega
          rw [if_neg h128] at HJ2
          by_cases h0 : x = 0 ∧ 0 < i
          · have HJ3 : Hid (join bs 0 0 = none) := by rw [HJ2.out, if_pos h0]; exact rfl
            obtain ⟨rfl, h0i⟩ := h0
            have g2 : (0 : Int) < (i : Int) := by omega
            clear HJ2
            rcases f9 with ⟨f9, f1⟩ | f9
            · obtain rfl : i = 9 := by omega
              have e2 : (9 : Int) < (M : Int) := by omega
              clear e1
              go_wp2
              go_ret2
              exact ⟨JoinOk.no HJ3.out rfl, rfl⟩
            · go_wp2
              go_ret2
              exact ⟨JoinOk.no HJ3.out rfl, rfl⟩
          · have HJ3 : Hid (join bs 0 0 = some (Z, i + 1)) := by rw [HJ2.out, if_neg h0]; exact rfl
            have g2 : (¬ (x : Int) = 0) ∨ ((x : Int) = 0 ∧ ¬ (0 : Int) < (i : Int)) := by omega
            clear HJ2
            have m1 : IntKind.i64.wrap ((i : Int) + 1) = (i : Int) + 1 := by rw [IntKind.wrap_i64]; omega
            have Hc : Hid ((i : Int) + 1 = ((i + 1 : Nat) : Int)) := by show _ = _; omega
            rcases g2 with g2 | ⟨g2, g3⟩
            · rcases f9 with ⟨f9, f1⟩ | f9
              · obtain rfl : i = 9 := by omega
                have e2 : (9 : Int) < (M : Int) := by omega
                have b2' : IntKind.u64.wrap ((q : Int) * 9223372036854775808) = (Y : Int) := by simpa using b2
                clear e1 b2
                go_wp2
                go_ret2
                exact ⟨JoinOk.mk HJ3.out rfl, rfl⟩
              · go_wp2
                go_ret2
                exact ⟨JoinOk.mk HJ3.out (by rw [← Hc.out]; rfl), rfl⟩
            · obtain rfl : x = 0 := by omega
              obtain rfl : i = 0 := by omega
              have e2 : (0 : Int) < (M : Int) := by omega
              obtain rfl : q = 0 := HQ0.out rfl
              obtain rfl : Y = 0 := HY0.out rfl
              obtain rfl : n = 0 := by have h := HN.out; simp at h; exact h
              obtain rfl : Z = 0 := HZ0.out
              have c0'' : wr.cell? ⟨sb, so, none⟩ = some (.int .u8 0) := by simpa using c0'
              have b4 : bits .andNot .u8 0 128 = 0 := by decide
              have b5 : bits .or .u64 0 0 = 0 := by decide
              clear c0' e1 f9 b1 b2 b3 w7 m1 Hc q1 HQ0 HY0 HZ0 HN g1 g2 g3
              go_wp2
              go_ret2
              exact ⟨JoinOk.mk HJ3.out rfl, rfl⟩
    · have e1 : ¬ (i : Int) < (M : Int) := by omega
      have HJ3 : Hid (join bs 0 0 = none) := by
        rw [hj.out, List.drop_eq_nil_of_le (by have := HM.out; omega)]; exact rfl
      clear hj
      go_wp2
      go_ret2
      exact ⟨JoinOk.no HJ3.out rfl, rfl⟩
end Go.Proofs.Ytpiflgbcbhnmpaa
