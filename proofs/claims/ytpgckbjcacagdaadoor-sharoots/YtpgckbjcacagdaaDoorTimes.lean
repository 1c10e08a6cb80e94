/- Numbers of twelve limbs: what times answers. -/
import Derived.Test.YtpgckbjcacagdaaDoorLimbs
namespace Go.Proofs.YtpgckbjcacagdaaDoor
open Go.RowKit
theorem val_set : ∀ (l : List Nat) (j v x : Nat), l[j]? = some x → val (l.set j v) + 65536 ^ j * x = val l + 65536 ^ j * v
  | [], j, v, x, h => by simp at h
  | y :: r, 0, v, x, h => by
    simp at h; subst h
    show v + 65536 * val r + 65536 ^ 0 * y = y + 65536 * val r + 65536 ^ 0 * v
    omega
  | y :: r, j + 1, v, x, h => by
    have := val_set r j v x (by simpa using h)
    show y + 65536 * val (r.set j v) + 65536 ^ (j + 1) * x = y + 65536 * val r + 65536 ^ (j + 1) * v
    have e1 : 65536 ^ (j + 1) * x = 65536 * (65536 ^ j * x) := by rw [Nat.pow_succ, Nat.mul_comm (65536 ^ j) 65536, Nat.mul_assoc]
    have e2 : 65536 ^ (j + 1) * v = 65536 * (65536 ^ j * v) := by rw [Nat.pow_succ, Nat.mul_comm (65536 ^ j) 65536, Nat.mul_assoc]
    rw [e1, e2]; omega
theorem limb_le (l : List Nat) (j x : Nat) (h : l[j]? = some x) : 65536 ^ j * x ≤ val l := by
  have hj : j < l.length := (List.getElem?_eq_some_iff.1 h).1
  have e : val l = val (l.take j) + 65536 ^ j * (x + 65536 * val (l.drop (j + 1))) := by
    conv => lhs; rw [← List.take_append_drop j l, val_append, List.length_take, Nat.min_eq_left (by omega), List.drop_eq_getElem_cons hj]
    rw [(List.getElem?_eq_some_iff.1 h).2]; rfl
  rw [e, Nat.mul_add]; omega
theorem val_take_succ (l : List Nat) (j x : Nat) (h : l[j]? = some x) : val (l.take (j + 1)) = val (l.take j) + 65536 ^ j * x := by
  have hj : j < l.length := (List.getElem?_eq_some_iff.1 h).1
  rw [List.take_add_one, h, val_append, List.length_take, Nat.min_eq_left (by omega)]
  rfl
theorem drop_le (l : List Nat) (j : Nat) (hj : j ≤ l.length) : val l = val (l.take j) + 65536 ^ j * val (l.drop j) := by
  conv => lhs; rw [← List.take_append_drop j l, val_append, List.length_take, Nat.min_eq_left hj]
/-- What is left out of the product is nothing. -/
theorem left_out (a b : List Nat) (hb : b.length = 12) (hp : val a * val b < 65536 ^ 12) (i x : Nat) (hi : i ≤ 12) (hx : a[i]? = some x) : 65536 ^ i * x * val (b.take (12 - i)) = 65536 ^ i * x * val b := by
  have h1 := limb_le a i x hx
  have h2 := drop_le b (12 - i) (by omega)
  have h3 : x * val (b.drop (12 - i)) = 0 := by
    rcases Nat.eq_zero_or_pos (x * val (b.drop (12 - i))) with h | h
    · exact h
    · exfalso
      have h4 : 65536 ^ i * x * (65536 ^ (12 - i) * val (b.drop (12 - i))) ≤ val a * val b := Nat.mul_le_mul h1 (by omega)
      have h5 : 65536 ^ i * x * (65536 ^ (12 - i) * val (b.drop (12 - i))) = 65536 ^ 12 * (x * val (b.drop (12 - i))) := by
        rw [Nat.mul_mul_mul_comm, ← Nat.pow_add, show i + (12 - i) = 12 by omega]
      have h6 : 65536 ^ 12 * 1 ≤ 65536 ^ 12 * (x * val (b.drop (12 - i))) := Nat.mul_le_mul_left _ h
      omega
  rw [h2, Nat.mul_add]
  have h7 : 65536 ^ i * x * (65536 ^ (12 - i) * val (b.drop (12 - i))) = 65536 ^ i * 65536 ^ (12 - i) * (x * val (b.drop (12 - i))) := Nat.mul_mul_mul_comm _ _ _ _
  rw [h7, h3]; omega
theorem top_lt (l : List Nat) (x : Nat) (hv : val l < 65536 ^ 12) (hx : l[11]? = some x) : x < 65536 := by
  have h1 := limb_le l 11 x hx
  rcases Nat.lt_or_ge x 65536 with h | h
  · exact h
  · exfalso
    have := Nat.mul_le_mul_left (65536 ^ 11) h
    have e : (65536 : Nat) ^ 11 * 65536 = 65536 ^ 12 := by rw [← Nat.pow_succ]
    omega
/-- Twelve limbs, each below 65536 but the one at j. -/
def LimBut (j : Nat) (l : List Nat) : Prop := l.length = 12 ∧ ∀ (m x : Nat), m ≠ j → l[m]? = some x → x < 65536
def Lim (l : List Nat) : Prop := l.length = 12 ∧ ∀ (m x : Nat), l[m]? = some x → x < 65536
theorem Lim.but {l : List Nat} (h : Lim l) (j v : Nat) : LimBut j (l.set j v) := by
  refine ⟨by simpa using h.1, fun m x hm hx => ?_⟩
  rw [List.getElem?_set_ne (by omega)] at hx
  exact h.2 m x hx
theorem LimBut.lim {j : Nat} {l : List Nat} {z : Nat} (h : LimBut j l) (hz : l[j]? = some z) (hlt : z < 65536) : Lim l := by
  refine ⟨h.1, fun m x hx => ?_⟩
  by_cases hm : m = j
  · subst hm; rw [hz] at hx; cases hx; exact hlt
  · exact h.2 m x hm hx
/-- A carry. -/
theorem LimBut.step {j : Nat} {l : List Nat} (h : LimBut j l) (o r : Nat) (hr : r < 65536) : LimBut (j + 1) ((l.set (j + 1) o).set j r) := by
  refine ⟨by simpa using h.1, fun m x hm hx => ?_⟩
  rw [List.getElem?_set] at hx
  split at hx
  · next hj =>
    split at hx
    · cases hx; exact hr
    · cases hx
  · next hj =>
    rw [List.getElem?_set_ne (by omega)] at hx
    exact h.2 m x (by omega) hx
theorem carry_val (l : List Nat) (j z o : Nat) (hz : l[j]? = some z) (ho : l[j + 1]? = some o) : val ((l.set (j + 1) (o + z / 65536)).set j (z % 65536)) = val l := by
  have h1 := val_set l (j + 1) (o + z / 65536) o ho
  have h2 := val_set (l.set (j + 1) (o + z / 65536)) j (z % 65536) z (by rw [List.getElem?_set_ne (by omega)]; exact hz)
  have e1 : 65536 ^ (j + 1) * (o + z / 65536) = 65536 ^ (j + 1) * o + 65536 ^ j * (65536 * (z / 65536)) := by rw [Nat.mul_add, ← Nat.mul_assoc (65536 ^ j), ← Nat.pow_succ]
  have e2 : 65536 ^ j * z = 65536 ^ j * (65536 * (z / 65536)) + 65536 ^ j * (z % 65536) := by rw [← Nat.mul_add, Nat.div_add_mod]
  omega
theorem carry_get (l : List Nat) (j r o : Nat) (hj : j + 1 < 12) (hl : l.length = 12) : ((l.set (j + 1) o).set j r)[j + 1]? = some o := by
  rw [List.getElem?_set_ne (by omega), List.getElem?_set_self (by omega)]
theorem set_mapLV (l : List Nat) (j v : Nat) : (l.map LV).set j (LV v) = (l.set j v).map LV := by simp
theorem zL_eq : (List.replicate 12 0).map LV = [Value.int .u64 0, .int .u64 0, .int .u64 0, .int .u64 0, .int .u64 0, .int .u64 0, .int .u64 0, .int .u64 0, .int .u64 0, .int .u64 0, .int .u64 0, .int .u64 0] := rfl
theorem val_zeros : val (List.replicate 12 0) = 0 := rfl
theorem lim_zeros : Lim (List.replicate 12 0) := by
  refine ⟨by simp, fun m x hx => ?_⟩
  have := List.eq_of_mem_replicate (List.mem_of_getElem? hx)
  omega
def TimesOk (a b : List Nat) (e : Ending) : Prop := ∃ c, e = .returned (.agg (c.map LV).toArray) ∧ Lim c ∧ val c = val a * val b
theorem size67 : (Tryd.prog.info? 67).map (·.size) = some 12 := by kernel_rfl
set_option maxRecDepth 100000 in
set_option maxHeartbeats 4000000 in
theorem times_any (a b : List Nat) (ha : Lim a) (hb : Lim b) (hp : val a * val b < 65536 ^ 12) (w : World) :
    Calls Tryd.prog 39 #[.agg (a.map LV).toArray, .agg (b.map LV).toArray] w fun e w' => TimesOk a b e ∧ Below w.heap.size w w' := by
  have HA : Hid (Lim a) := ha
  have HB : Hid (Lim b) := hb
  have HP : Hid (∀ n, n = 12 → val a * val b < 65536 ^ n) := by rintro n rfl; exact hp
  have HL : Hid (∀ i x, i ≤ 12 → a[i]? = some x → 65536 ^ i * x * val (b.take (12 - i)) = 65536 ^ i * x * val b) := fun i x hi hx => left_out a b hb.1 hp i x hi hx
  clear ha hb hp
  have hB0 : Blk ((((w.alloc (.cells (a.map LV).toArray 67)).alloc (.cells (b.map LV).toArray 67)).alloc (.cells ((List.replicate 12 0).map LV).toArray 67)).alloc (.cells ((List.replicate 12 0).map LV).toArray 67)) w.heap.size (a.map LV) 67 := (((Blk.new _ _ _).alloc _).alloc _).alloc _
  have hB1 : Blk ((((w.alloc (.cells (a.map LV).toArray 67)).alloc (.cells (b.map LV).toArray 67)).alloc (.cells ((List.replicate 12 0).map LV).toArray 67)).alloc (.cells ((List.replicate 12 0).map LV).toArray 67)) (w.heap.size + 1) (b.map LV) 67 := ((Blk.new' _ _ _ _ (by simp)).alloc _).alloc _
  have hB2 : Blk ((((w.alloc (.cells (a.map LV).toArray 67)).alloc (.cells (b.map LV).toArray 67)).alloc (.cells ((List.replicate 12 0).map LV).toArray 67)).alloc (.cells ((List.replicate 12 0).map LV).toArray 67)) (w.heap.size + 2) ((List.replicate 12 0).map LV) 67 := (Blk.new' _ _ _ _ (by simp)).alloc _
  have hB3 : Blk ((((w.alloc (.cells (a.map LV).toArray 67)).alloc (.cells (b.map LV).toArray 67)).alloc (.cells ((List.replicate 12 0).map LV).toArray 67)).alloc (.cells ((List.replicate 12 0).map LV).toArray 67)) (w.heap.size + 3) ((List.replicate 12 0).map LV) 67 := Blk.new' _ _ _ _ (by simp)
  have hbe : Below w.heap.size w ((((w.alloc (.cells (a.map LV).toArray 67)).alloc (.cells (b.map LV).toArray 67)).alloc (.cells ((List.replicate 12 0).map LV).toArray 67)).alloc (.cells ((List.replicate 12 0).map LV).toArray 67)) := ((((Below.refl _ _).alloc (Nat.le_refl _) _).alloc (by simp) _).alloc (by simp; omega) _).alloc (by simp; omega) _
  rw [zL_eq] at hB0 hB1 hB2 hB3 hbe
  go_enter Tryd.func39, Tryd.ntmps39
  go_wp2
  generalize (((w.alloc (.cells (a.map LV).toArray 67)).alloc (.cells (b.map LV).toArray 67)).alloc _).alloc _ = W at *
  rw [← zL_eq] at hB2 hB3
  obtain ⟨A, hA⟩ : ∃ A, A = w.heap.size := ⟨_, rfl⟩
  rw [← hA] at hB0 hB1 hB2 hB3 hbe
  simp only [← hA]
  have HAW : Hid (A = w.heap.size) := hA
  clear hA
  have HB0 : Hid (Blk W A (a.map LV) 67) := hB0
  have HB1 : Hid (Blk W (A + 1) (b.map LV) 67) := hB1
  have HB2 : Hid (Blk W (A + 2) ((List.replicate 12 0).map LV) 67) := hB2
  have HBE : Hid (Below A w W) := hbe
  clear hB0 hB1 hB2 hbe
  go_loopw [6] (fun iv wr => ∃ (i : Nat) (l : List Nat), iv = .int .i64 (i : Nat) ∧ i ≤ 12 ∧ Hid (Lim l) ∧ Hid (val l = val (a.take i) * val b) ∧ Hid (Blk wr (A + 3) (l.map LV) 67) ∧ Hid (Only (A + 3) W wr)) (fun iv _ => 12 - (intOf iv).toNat)
  case atStart => exact ⟨0, List.replicate 12 0, rfl, by omega, lim_zeros, by rw [val_zeros, List.take_zero]; show 0 = 0 * _; omega, hB3, Only.refl _ _⟩
  case round =>
    clear hB3
    obtain ⟨i, l, rfl, hi, hl, hv, hK, ho⟩ := hrel
    by_cases hlt : i < 12
    · have e1 : (i : Int) < 12 := by omega
      obtain ⟨x, hx⟩ : ∃ x, a[i]? = some x := ⟨_, List.getElem?_eq_getElem (by rw [HA.out.1]; exact hlt)⟩
      have hx16 := HA.out.2 i x hx
      have HX : Hid (a[i]? = some x) := hx
      clear hx
      go_wp2
      go_loopw [7] (fun kv wr => ∃ (k : Nat) (l : List Nat), kv = .int .i64 (k : Nat) ∧ i + k ≤ 12 ∧ Hid (Lim l) ∧ Hid (val l = val (a.take i) * val b + 65536 ^ i * x * val (b.take k)) ∧ Hid (Blk wr (A + 3) (l.map LV) 67) ∧ Hid (Only (A + 3) W wr)) (fun kv _ => 12 - (intOf kv).toNat)
      case atStart => exact ⟨0, l, rfl, by omega, hl, by rw [List.take_zero]; exact hv, hK, ho⟩
      case round =>
        rename_i wr0 _ _ _
        clear hl hv hK ho
        obtain ⟨k, l, rfl, hk, hl, hv, hK, ho⟩ := hrel
        have w1 : IntKind.i64.wrap ((i : Int) + (k : Int)) = (i : Int) + (k : Int) := by rw [IntKind.wrap_i64]; omega
        by_cases hkl : i + k < 12
        · have e2 : (i : Int) + (k : Int) < 12 := by omega
          obtain ⟨y, hy⟩ : ∃ y, b[k]? = some y := ⟨_, List.getElem?_eq_getElem (by rw [HB.out.1]; omega)⟩
          obtain ⟨o, hoo⟩ : ∃ o, l[i + k]? = some o := ⟨_, List.getElem?_eq_getElem (by rw [hl.out.1]; omega)⟩
          have hy16 := HB.out.2 k y hy
          have ho16 := hl.out.2 _ o hoo
          obtain ⟨P, hP⟩ : ∃ P, P = x * y := ⟨_, rfl⟩
          have hPi : (x : Int) * (y : Int) = (P : Int) := by rw [hP]; push_cast; rfl
          have hP32 : P ≤ 4294836225 := by rw [hP]; exact Nat.le_trans (Nat.mul_le_mul (show x ≤ 65535 by omega) (show y ≤ 65535 by omega)) (by decide)
          have c0 : wr.cell? ⟨A, i, none⟩ = some (.int .u64 (x : Int)) := by
            rw [(ho.out.blk HB0.out (by omega)).cell]; simp [HX.out]
          have c1 : wr.cell? ⟨A + 1, k, none⟩ = some (.int .u64 (y : Int)) := by
            rw [(ho.out.blk HB1.out (by omega)).cell]; simp [hy]
          have c2 : wr.cell? ⟨A + 3, i + k, none⟩ = some (.int .u64 (o : Int)) := by
            rw [hK.out.cell]; simp [hoo]
          have f2 := hK.out.frozen (i + k)
          have tn : ((i : Int) + (k : Int)).toNat = i + k := by omega
          have g0 : (0 : Int) ≤ (i : Int) := by omega
          have g1 : (0 : Int) ≤ (k : Int) := by omega
          have g2 : (0 : Int) ≤ (i : Int) + (k : Int) := by omega
          have g3 : (k : Int) < 12 := by omega
          have hT : val (l.set (i + k) (o + P)) = val (a.take i) * val b + 65536 ^ i * x * val (b.take (k + 1)) := by
            have h1 := val_set l (i + k) (o + P) o hoo
            have h2 := val_take_succ b k y hy
            have h3 : 65536 ^ (i + k) * P = 65536 ^ i * x * (65536 ^ k * y) := by rw [hP, Nat.pow_add, Nat.mul_mul_mul_comm]
            rw [h2, Nat.mul_add, ← h3]
            rw [Nat.mul_add, hv.out] at h1
            omega
          have hTle : val (l.set (i + k) (o + P)) ≤ val a * val b := by
            rw [hT]
            have h1 : 65536 ^ i * x * val (b.take (k + 1)) ≤ 65536 ^ i * x * val b := Nat.mul_le_mul_left _ (by
              have := drop_le b (k + 1) (by rw [HB.out.1]; omega); omega)
            have h2 : val (a.take (i + 1)) * val b ≤ val a * val b := Nat.mul_le_mul_right _ (by
              have := drop_le a (i + 1) (by rw [HA.out.1]; omega); omega)
            rw [val_take_succ a i x HX.out, Nat.add_mul] at h2
            omega
          have HT : Hid (val (l.set (i + k) (o + P)) = val (a.take i) * val b + 65536 ^ i * x * val (b.take (k + 1))) := hT
          have HTL : Hid (∀ n, n = 12 → val (l.set (i + k) (o + P)) < 65536 ^ n) := by rintro n rfl; exact Nat.lt_of_le_of_lt hTle (HP.out _ rfl)
          have HLB : Hid (LimBut (i + k) (l.set (i + k) (o + P))) := hl.out.but _ _
          have HG : Hid ((l.set (i + k) (o + P))[i + k]? = some (o + P)) := by show _ = _; rw [List.getElem?_set_self (by rw [hl.out.1]; omega)]
          have HK2 : Hid (∀ b', b' = A + 3 → Blk (wr.setCell ⟨b', i + k, none⟩ (Value.int .u64 ((o : Int) + (P : Int)))).drew (A + 3) ((l.set (i + k) (o + P)).map LV) 67 ∧ Only (A + 3) W (wr.setCell ⟨b', i + k, none⟩ (Value.int .u64 ((o : Int) + (P : Int)))).drew) := by
            rintro b' rfl
            have h1 := hK.out.set (i + k) (.int .u64 ((o : Int) + (P : Int)))
            have h2 : (Value.int .u64 ((o : Int) + (P : Int))) = LV (o + P) := by unfold LV; congr 1
            refine ⟨?_, (ho.out.setCell _ _).drew⟩
            rw [← set_mapLV, ← h2]
            exact h1.drew
          clear hv hoo hy hP hT hTle hK ho hl
          go_wp2
          go_region
          obtain ⟨hK3, ho3⟩ := HK2.out _ rfl
          generalize (wr.setCell _ _).drew = W3 at *
          clear HK2 c0 c1 c2 f2
          obtain ⟨z0, hz0⟩ : ∃ z, z = o + P := ⟨_, rfl⟩
          obtain ⟨l0, hl0⟩ : ∃ l', l' = l.set (i + k) (o + P) := ⟨_, rfl⟩
          rw [← hl0] at HT HTL HLB HG hK3
          rw [← hz0] at HG
          have hz33 : z0 < 8589934592 := by omega
          clear hl0 hz0
          go_wp2
          obtain ⟨T, hTT⟩ : ∃ T, T = val l0 := ⟨_, rfl⟩
          rw [← hTT] at HT HTL
          have HV0 : Hid (val l0 = T) := hTT.symm
          clear hTT
          go_loopw [8] (fun jv wr => ∃ (j : Nat) (l : List Nat) (z : Nat), jv = .int .i64 (j : Nat) ∧ j < 12 ∧ z < 8589934592 ∧ Hid (LimBut j l) ∧ Hid (l[j]? = some z) ∧ Hid (val l = T) ∧ Hid (Blk wr (A + 3) (l.map LV) 67) ∧ Hid (Only (A + 3) W wr)) (fun jv _ => 12 - (intOf jv).toNat)
          case atStart => exact ⟨i + k, l0, z0, by simp, hkl, hz33, HLB, HG, HV0, hK3, ho3⟩
          case round =>
            clear HLB HG HV0 hK3 ho3 hz33
            obtain ⟨j, l', z, rfl, hj, hz, hlb, hg, hvv, hK, ho⟩ := hrel
            have w2 : IntKind.i64.wrap ((j : Int) + 1) = (j : Int) + 1 := by rw [IntKind.wrap_i64]; omega
            have j0 : (0 : Int) ≤ (j : Int) := by omega
            by_cases hmore : j + 1 < 12 ∧ 65536 ≤ z
            · have e3 : (j : Int) + 1 < 12 := by omega
              have e4 : (65536 : Int) ≤ (z : Int) := by omega
              have e5 : (j : Int) < 12 := by omega
              obtain ⟨o', hoo⟩ : ∃ o', l'[j + 1]? = some o' := ⟨_, List.getElem?_eq_getElem (by rw [hlb.out.1]; omega)⟩
              have ho16 := hlb.out.2 (j + 1) o' (by omega) hoo
              have c0 : wr.cell? ⟨A + 3, j, none⟩ = some (.int .u64 (z : Int)) := by rw [hK.out.cell]; simp [hg.out]
              have c1 : wr.cell? ⟨A + 3, j + 1, none⟩ = some (.int .u64 (o' : Int)) := by rw [hK.out.cell]; simp [hoo]
              have f0 := hK.out.frozen j
              have f1 := hK.out.frozen (j + 1)
              have tn : ((j : Int) + 1).toNat = j + 1 := by omega
              have j1 : (0 : Int) ≤ (j : Int) + 1 := by omega
              obtain ⟨q, hq⟩ : ∃ q, q = z / 65536 := ⟨_, rfl⟩
              obtain ⟨r, hr⟩ : ∃ r, r = z % 65536 := ⟨_, rfl⟩
              have hqi : (z : Int) / 65536 = (q : Int) := by omega
              have hri : (z : Int) % 65536 = (r : Int) := by omega
              have hq17 : q < 131072 := by omega
              have HV2 : Hid (val ((l'.set (j + 1) (o' + q)).set j r) = T) := by rw [hq, hr, carry_val l' j z o' hg.out hoo]; exact hvv
              have HL2 : Hid (LimBut (j + 1) ((l'.set (j + 1) (o' + q)).set j r)) := hlb.out.step _ _ (by omega)
              have HG2 : Hid (((l'.set (j + 1) (o' + q)).set j r)[j + 1]? = some (o' + q)) := carry_get l' j r (o' + q) (by omega) hlb.out.1
              have HK2 : Hid (∀ b', b' = A + 3 → (Blk (wr.setCell ⟨b', j + 1, none⟩ (Value.int .u64 ((o' : Int) + (q : Int)))).drew (A + 3) ((l'.set (j + 1) (o' + q)).map LV) 67 ∧ Only (A + 3) W (wr.setCell ⟨b', j + 1, none⟩ (Value.int .u64 ((o' : Int) + (q : Int)))).drew)) := by
                rintro b' rfl
                have h1 := hK.out.set (j + 1) (.int .u64 ((o' : Int) + (q : Int)))
                have h2 : (Value.int .u64 ((o' : Int) + (q : Int))) = LV (o' + q) := by unfold LV; congr 1
                refine ⟨?_, (ho.out.setCell _ _).drew⟩
                rw [← set_mapLV, ← h2]
                exact h1.drew
              have HGZ : Hid ((l'.set (j + 1) (o' + q))[j]? = some z) := by show _ = _; rw [List.getElem?_set_ne (by omega)]; exact hg.out
              clear hoo hq hr hvv hlb hg hK ho
              go_wp2
              go_region
              obtain ⟨hK3, ho3⟩ := HK2.out _ rfl
              generalize (wr.setCell _ _).drew = W4 at *
              clear HK2 c0 c1 f0 f1
              have c0 : W4.cell? ⟨A + 3, j, none⟩ = some (.int .u64 (z : Int)) := by rw [hK3.cell, List.getElem?_map, HGZ.out]; rfl
              have f0 := hK3.frozen j
              have HK4 : Hid (∀ b', b' = A + 3 → (Blk (W4.setCell ⟨b', j, none⟩ (Value.int .u64 (r : Int))) (A + 3) (((l'.set (j + 1) (o' + q)).set j r).map LV) 67 ∧ Only (A + 3) W (W4.setCell ⟨b', j, none⟩ (Value.int .u64 (r : Int))))) := by
                rintro b' rfl
                have h1 := hK3.set j (LV r)
                rw [set_mapLV] at h1
                exact ⟨h1, ho3.setCell _ _⟩
              clear hK3 ho3 HGZ
              go_wp2
              go_roundw
              case rel => exact ⟨j + 1, _, o' + q, by go_num, by omega, by omega, HL2, HG2, HV2, (HK4.out _ rfl).1, (HK4.out _ rfl).2⟩
              case measure => simp [intOf]; omega
            · have hz16 : z < 65536 := by
                rcases Nat.lt_or_ge z 65536 with h | h
                · exact h
                · have h11 : j = 11 := by omega
                  subst h11
                  exact top_lt l' z (by rw [hvv.out]; exact HTL.out _ rfl) hg.out
              have HLM : Hid (Lim l') := hlb.out.lim hg.out hz16
              have hcc : (((j : Int) + 1 < 12) ∧ ¬ (65536 : Int) ≤ (z : Int)) ∨ ¬ ((j : Int) + 1 < 12) := by omega
              have e5 : (j : Int) < 12 := by omega
              have c0 : wr.cell? ⟨A + 3, j, none⟩ = some (.int .u64 (z : Int)) := by rw [hK.out.cell]; simp [hg.out]
              have HV3 : Hid (val l' = val (a.take i) * val b + 65536 ^ i * x * val (b.take (k + 1))) := by show _ = _; rw [hvv.out, HT.out]
              clear hmore hlb hg hvv
              rcases hcc with ⟨e3, e4⟩ | e3
              · go_wp2
                go_roundw
                case rel => exact ⟨k + 1, l', by go_num, by omega, HLM, HV3, hK, ho⟩
                case measure => simp [intOf]; omega
              · go_wp2
                go_roundw
                case rel => exact ⟨k + 1, l', by go_num, by omega, HLM, HV3, hK, ho⟩
                case measure => simp [intOf]; omega
        · have e2 : ¬ ((i : Int) + (k : Int) < 12) := by omega
          have hk12 : k = 12 - i := by omega
          have HV3 : Hid (val l = val (a.take (i + 1)) * val b) := by
            show _ = _
            rw [hv.out, hk12, HL.out i x (by omega) HX.out, val_take_succ a i x HX.out, Nat.add_mul]
          clear hv hk12
          go_wp2
          go_roundw
          case rel => exact ⟨i + 1, l, by go_num, by omega, hl, HV3, hK, ho⟩
          case measure => simp [intOf]; omega
    · have e1 : ¬ (i : Int) < 12 := by omega
      have hi12 : i = 12 := by omega
      have HV3 : Hid (val l = val a * val b) := by
        show _ = _
        rw [hv.out, hi12, List.take_of_length_le (by rw [HA.out.1]; omega)]
      clear hv hi12
      have hi67 : (Tryd.prog.info? 67).map (·.size) = some (l.map LV).length := by rw [List.length_map, hl.out.1]; exact size67
      have hr := hK.out.range
      have hB2 := ho.out.blk HB2.out (by omega)
      have hth := hB2.there 0 (l.map LV).length (by rw [List.length_map, hl.out.1]; simp)
      have hbr := Blk.setCells (l.map LV) 0 hB2 (by rw [List.length_map, hl.out.1]; simp)
      rw [show over ((List.replicate 12 0).map LV) 0 (l.map LV) = l.map LV by simp [over, hl.out.1]] at hbr
      have hbf := Below.setCells (HBE.out.trans (ho.out.below (B := A) (by omega) (by have := HBE.out.size; have := HAW.out; omega))) (b := A + 2) (by omega) 0 (l.map LV)
      have hone : Hid (∀ v ∈ l.map LV, v.oneCell' = true) := by
        intro v hv
        obtain ⟨x, _, rfl⟩ := List.mem_map.1 hv
        rfl
      go_wp2_with (first
        | ((with_reducible refine wpL_load 67 (A + 3) 0 (l.map LV) _ ?_ hr Tryd.underlying67 ?_ hi67 ?_); (rfl); (rfl); (simp only [Act.put, List.setIfInBounds_toArray, List.set_cons_zero, List.set_cons_succ]))
        | ((with_reducible refine wpL_store 67 (A + 2) 0 (l.map LV) ?_ ?_ hth hi67 hone.out ?_); (rfl); (rfl); (simp only [Act.put])))
      exact bodyPost_ret (results_array Tryd.results39 rfl hbr Tryd.underlying67 rfl hi67) rfl ⟨⟨l, rfl, hl.out, HV3.out⟩, by rw [← HAW.out]; exact hbf⟩
end Go.Proofs.YtpgckbjcacagdaaDoor
