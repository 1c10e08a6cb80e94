/- Who sees whom. -/
import Derived.Test.YteijncfnifebjaaLines
import Derived.Test.YteijncfnifebjaaNx
namespace Go.Proofs.Yteijncfnifebjaa
open Go.RowKit
/-- The cells 1 to k of f are no rock. -/
def clearTo (m : Mp) (f : Nat → Int × Int) : Nat → Bool
  | 0 => true
  | k + 1 => clearTo m f k && !rock m (f (k + 1)).1 (f (k + 1)).2
theorem clearTo_iff (m : Mp) (f : Nat → Int × Int) : ∀ n, clearTo m f n = true ↔ ∀ k, 1 ≤ k → k ≤ n → rock m (f k).1 (f k).2 = false
  | 0 => ⟨fun _ k h1 h2 => by omega, fun _ => rfl⟩
  | n + 1 => by
    rw [clearTo, Bool.and_eq_true, clearTo_iff m f n, Bool.not_eq_true']
    constructor
    · rintro ⟨h1, h2⟩ k hk1 hk2
      rcases Nat.lt_or_ge k (n + 1) with h | h
      · exact h1 k hk1 (by omega)
      · obtain rfl : k = n + 1 := by omega
        exact h2
    · intro h
      exact ⟨fun k h1 h2 => h k h1 (by omega), h (n + 1) (by omega) (by omega)⟩
def sees (m : Mp) (ax ay bx by_ : Int) : Bool := formed m && holds m ax ay && holds m bx by_ && clearTo m (cellAt ax ay bx by_) ((far ax ay bx by_).toNat - 1)
theorem far_comm (ax ay bx by_ : Int) : far ax ay bx by_ = far bx by_ ax ay := by unfold far apt; omega
theorem sees_comm (m : Mp) (ax ay bx by_ : Int) : sees m ax ay bx by_ = sees m bx by_ ax ay := by
  have key : ∀ ax ay bx by_ : Int, clearTo m (cellAt ax ay bx by_) ((far ax ay bx by_).toNat - 1) = true → clearTo m (cellAt bx by_ ax ay) ((far bx by_ ax ay).toNat - 1) = true := by
    intro ax ay bx by_ h
    rw [clearTo_iff] at h ⊢
    intro k h1 h2
    have hf := far_comm ax ay bx by_
    have := h ((far bx by_ ax ay).toNat - k) (by omega) (by rw [hf]; omega)
    have e : cellAt bx by_ ax ay k = cellAt ax ay bx by_ ((far bx by_ ax ay).toNat - k) := by
      unfold cellAt
      rw [hf]
      have e1 : (((far bx by_ ax ay).toNat - k : Nat) : Int) = far bx by_ ax ay - (k : Int) := by omega
      rw [e1, btw_back (by omega), btw_back (by omega)]
    rw [e]; exact this
  unfold sees
  have e : clearTo m (cellAt ax ay bx by_) ((far ax ay bx by_).toNat - 1) = clearTo m (cellAt bx by_ ax ay) ((far bx by_ ax ay).toNat - 1) := by
    rw [Bool.eq_iff_iff]
    exact ⟨key ax ay bx by_, key bx by_ ax ay⟩
  rw [e]
  cases formed m <;> cases holds m ax ay <;> cases holds m bx by_ <;> rfl
/-- A place between lies between. -/
theorem btw_mid {a b k n : Int} (hn : 0 < n) (hk : 0 ≤ k ∧ k ≤ n) (hab : a ≤ b) : a ≤ btw a b k n ∧ btw a b k n ≤ b := by
  unfold btw
  have hd : 0 ≤ b - a := by omega
  have h1 : 0 ≤ 2 * k * (b - a) := Int.mul_nonneg (by omega) hd
  have h2 : 2 * k * (b - a) ≤ 2 * n * (b - a) := Int.mul_le_mul_of_nonneg_right (by omega) hd
  have h3 : 0 ≤ (2 * k * (b - a) + n) / (2 * n) := Int.ediv_nonneg (by omega) (by omega)
  have h4 : (2 * k * (b - a) + n) / (2 * n) < b - a + 1 := by
    rw [Int.ediv_lt_iff_lt_mul (by omega)]
    have e : (b - a + 1) * (2 * n) = 2 * n * (b - a) + 2 * n := by rw [Int.add_mul, Int.one_mul, Int.mul_comm]
    omega
  omega
theorem btw_in {a b k n lo hi : Int} (hn : 0 < n) (hk : 0 ≤ k ∧ k ≤ n) (ha : lo ≤ a ∧ a < hi) (hb : lo ≤ b ∧ b < hi) : lo ≤ btw a b k n ∧ btw a b k n < hi := by
  rcases Int.le_total a b with h | h
  · have := btw_mid hn hk h; omega
  · have := btw_mid (a := b) (b := a) (k := n - k) hn (by omega) h
    rw [btw_back hn] at this; omega
theorem line_inside {m : Mp} {ax ay bx by_ : Int} (ha : holds m ax ay = true) (hb : holds m bx by_ = true) (k : Nat) (hk : (k : Int) ≤ far ax ay bx by_) (hf : 0 < far ax ay bx by_) : holds m (cellAt ax ay bx by_ k).1 (cellAt ax ay bx by_ k).2 = true := by
  have h1 := holds_of ha
  have h2 := holds_of hb
  have e1 := btw_in (a := ax) (b := bx) (k := k) (n := far ax ay bx by_) (lo := 0) (hi := m.W) hf (by omega) (by omega) (by omega)
  have e2 := btw_in (a := ay) (b := by_) (k := k) (n := far ax ay bx by_) (lo := 0) (hi := m.H) hf (by omega) (by omega) (by omega)
  unfold cellAt holds
  simp only [Bool.and_eq_true, decide_eq_true_eq]
  omega
theorem meas_inside {m : Mp} {x y : Int} (hf : formed m = true) (h : holds m x y = true) : meas x y = true := by
  have h1 := holds_of h
  obtain ⟨f1, f2, _⟩ := formed_of hf
  unfold meas
  simp only [Bool.and_eq_true, decide_eq_true_eq]
  omega
/-- A map and two cells were laid into blocks of their own. -/
theorem map_cells_box (w : World) (a b : Int) (s t : Value) (x y u z : Int) (W : World) (B : Nat) (hW : W = ((w.alloc (.cells #[Value.int .i64 a, .int .i64 b, s, t] 24)).alloc (.cells #[Value.int .i64 x, .int .i64 y] 27)).alloc (.cells #[Value.int .i64 u, .int .i64 z] 27)) (hB : B = w.heap.size) :
    (∀ w', Below W.heap.size W w' → w'.cell? ⟨B, 0, none⟩ = some (.int .i64 a) ∧ w'.cell? ⟨B, 1, none⟩ = some (.int .i64 b) ∧ w'.cell? ⟨B, 2, none⟩ = some s ∧ w'.cell? ⟨B, 3, none⟩ = some t ∧ w'.cell? ⟨B + 1, 0, none⟩ = some (.int .i64 x) ∧ w'.cell? ⟨B + 1, 1, none⟩ = some (.int .i64 y) ∧ w'.cell? ⟨B + 2, 0, none⟩ = some (.int .i64 u) ∧ w'.cell? ⟨B + 2, 1, none⟩ = some (.int .i64 z)) ∧ (∀ w', Below W.heap.size W w' → Below w.heap.size w w') := by
  have hsz : W.heap.size = B + 3 := by rw [hW, hB]; simp
  have hbe : Below w.heap.size w W := by rw [hW]; exact (((Below.refl _ _).alloc (Nat.le_refl _) _).alloc (by simp) _).alloc (by simp; omega) _
  have b1 : Blk W B [Value.int .i64 a, .int .i64 b, s, t] 24 := by rw [hW, hB]; exact ((Blk.new _ _ _).alloc _).alloc _
  have b2 : Blk W (B + 1) [Value.int .i64 x, .int .i64 y] 27 := by rw [hW]; exact (Blk.new' _ _ _ _ (by simp [hB])).alloc _
  have b3 : Blk W (B + 2) [Value.int .i64 u, .int .i64 z] 27 := by rw [hW]; exact Blk.new' _ _ _ _ (by simp [hB])
  refine ⟨fun w' h => ?_, fun w' h => hbe.trans (h.mono (by omega))⟩
  have c1 := b1.below h (by omega)
  have c2 := b2.below h (by omega)
  have c3 := b3.below h (by omega)
  exact ⟨c1.cell 0, c1.cell 1, c1.cell 2, c1.cell 3, c2.cell 0, c2.cell 1, c3.cell 0, c3.cell 1⟩
set_option maxHeartbeats 4000000 in
theorem sees_any (m : Mp) (v : Value) (ax ay bx by_ : Int) (w : World) (hm : MapAt w v m) : Calls Try.prog 30 #[v, C ax ay, C bx by_] w fun e w' => Out w (.bool (sees m ax ay bx by_)) e w' := by
  have h17 : Hid (∀ W v, MapAt W v m → Calls Try.prog 31 #[v, C ax ay] W fun e w' => Out W (.bool (formed m && holds m ax ay)) e w') := fun W v h => inside_any m v ax ay W h
  have h39 : Hid (∀ s t W, Calls Try.prog 41 #[.agg #[.int .i64 m.W, .int .i64 m.H, s, t], C bx by_] W fun e w' => Out W (.bool (holds m bx by_)) e w') := fun s t W => holds_any m s t bx by_ W
  have HM := hid (fun W (h : Below w.heap.size w W) => hm.below h)
  have HS : Hid (sees m ax ay bx by_ = (formed m && holds m ax ay && holds m bx by_ && clearTo m (cellAt ax ay bx by_) ((far ax ay bx by_).toNat - 1))) := rfl
  have HL : Hid ((formed m && holds m ax ay) = true → holds m bx by_ = true → (∀ W, Calls Try.prog 42 #[C ax ay, C bx by_] W fun e w' => OutLine W (lineOf ax ay bx by_) e w') ∧ (∀ (k : Nat) (W : World) v, 1 ≤ k → (k : Int) < far ax ay bx by_ → MapAt W v m → Calls Try.prog 43 #[v, C (cellAt ax ay bx by_ k).1 (cellAt ax ay bx by_ k).2] W fun e w' => Out W (.bool (rock m (cellAt ax ay bx by_ k).1 (cellAt ax ay bx by_ k).2)) e w') ∧ 0 ≤ far ax ay bx by_ ∧ far ax ay bx by_ ≤ 2000) := fun h1 h2 => by
    rw [Bool.and_eq_true] at h1
    have m1 := meas_inside h1.1 h1.2
    have m2 := meas_inside h1.1 h2
    refine ⟨fun W => ?_, fun k W v hk1 hk2 hm => rock_any m v _ _ W hm h1.1 (line_inside h1.2 h2 k (by omega) (by omega)), ?_, ?_⟩
    · have := line_any ax ay bx by_ W
      rwa [lineM, m1, m2, Bool.true_and, if_pos rfl] at this
    · have := meas_of m1; have := meas_of m2; unfold far apt; omega
    · have := meas_of m1; have := meas_of m2; unfold far apt; omega
  obtain ⟨p, c, q, d, rfl, -, -⟩ := hm
  unfold Out
  generalize sees m ax ay bx by_ = R at *
  generalize (formed m && holds m ax ay) = F at *
  generalize holds m bx by_ = G at *
  have HCT : Hid (∀ k, clearTo m (cellAt ax ay bx by_) (k + 1) = (clearTo m (cellAt ax ay bx by_) k && !rock m (cellAt ax ay bx by_ (k + 1)).1 (cellAt ax ay bx by_ (k + 1)).2)) := fun k => rfl
  have HCF : Hid (∀ k n : Nat, k + 1 ≤ n → rock m (cellAt ax ay bx by_ (k + 1)).1 (cellAt ax ay bx by_ (k + 1)).2 = true → clearTo m (cellAt ax ay bx by_) n = false) := fun k n h1 h2 => by
    rw [Bool.eq_false_iff]
    intro h3
    rw [clearTo_iff] at h3
    rw [h3 (k + 1) (by omega) h1] at h2
    cases h2
  obtain ⟨a, b, ts, os⟩ := m
  simp only at HM h39 ⊢
  generalize ts.length = M at *
  generalize os.length = N at *
  unfold C at *
  rcases F with _ | _
  · have hR : R = false := by rw [HS.out]; simp
    subst hR
    go_enter Try.func30, Try.ntmps30
    go_upto_region 1 with (fail)
    obtain ⟨W, hW⟩ : ∃ W, W = ((w.alloc (.cells #[Value.int .i64 a, .int .i64 b, .slice p M c, .slice q N d] 24)).alloc (.cells #[Value.int .i64 ax, .int .i64 ay] 27)).alloc (.cells #[Value.int .i64 bx, .int .i64 by_] 27) := ⟨_, rfl⟩
    obtain ⟨B, hB⟩ : ∃ B, B = w.heap.size := ⟨_, rfl⟩
    rw [← hW, ← hB]
    obtain ⟨hk, hbe⟩ := map_cells_box w a b _ _ ax ay bx by_ W B hW hB
    obtain ⟨a0, a1, a2, a3, a4, a5, a6, a7⟩ := hk W (Below.refl _ _)
    have HBE := hid hbe
    clear hW hB hk hbe
    go_wp2_with fail
    refine Calls.mono (h17.out _ _ (HM.out _ (HBE.out W (Below.refl _ _)))) ?_
    rintro e w1 ⟨rfl, hb1⟩
    have HB1 := hid hb1
    clear hb1
    go_wp2
    go_ret
    exact ⟨rfl, HBE.out _ HB1.out⟩
  · rcases G with _ | _
    · have hR : R = false := by rw [HS.out]; simp
      subst hR
      go_enter Try.func30, Try.ntmps30
      go_upto_region 1 with (fail)
      obtain ⟨W, hW⟩ : ∃ W, W = ((w.alloc (.cells #[Value.int .i64 a, .int .i64 b, .slice p M c, .slice q N d] 24)).alloc (.cells #[Value.int .i64 ax, .int .i64 ay] 27)).alloc (.cells #[Value.int .i64 bx, .int .i64 by_] 27) := ⟨_, rfl⟩
      obtain ⟨B, hB⟩ : ∃ B, B = w.heap.size := ⟨_, rfl⟩
      rw [← hW, ← hB]
      obtain ⟨hk, hbe⟩ := map_cells_box w a b _ _ ax ay bx by_ W B hW hB
      obtain ⟨a0, a1, a2, a3, a4, a5, a6, a7⟩ := hk W (Below.refl _ _)
      have HK := hid hk
      have HBE := hid hbe
      clear hW hB hk hbe
      go_wp2_with fail
      refine Calls.mono (h17.out _ _ (HM.out _ (HBE.out W (Below.refl _ _)))) ?_
      rintro e w1 ⟨rfl, hb1⟩
      have HB1 := hid hb1
      obtain ⟨b0, b1, b2, b3, b4, b5, b6, b7⟩ := HK.out w1 hb1
      clear hb1
      go_wp2_with fail
      refine Calls.mono (h39.out _ _ _) ?_
      rintro e w2 ⟨rfl, hb2⟩
      have HB2 := hid (HB1.out.trans (hb2.mono HB1.out.size))
      clear hb2
      go_wp2
      go_ret
      exact ⟨rfl, HBE.out _ HB2.out⟩
    · obtain ⟨h26, h41, hf0, hf1⟩ := HL.out (by first | rfl | trivial) (by first | rfl | trivial)
      obtain ⟨n, hn⟩ : ∃ n : Nat, far ax ay bx by_ = (n : Int) := ⟨(far ax ay bx by_).toNat, by omega⟩
      have H26 := hid h26
      have H41 := hid h41
      unfold lineOf OutLine at H26
      rw [hn, Int.toNat_natCast] at H26 HS
      rw [hn] at H41 hf1
      have hn2 : n ≤ 2000 := by omega
      clear h26 h41 hf0 hf1 HL hn
      generalize cellAt ax ay bx by_ = f at *
      go_enter Try.func30, Try.ntmps30
      go_upto_region 1 with (fail)
      obtain ⟨W, hW⟩ : ∃ W, W = ((w.alloc (.cells #[Value.int .i64 a, .int .i64 b, .slice p M c, .slice q N d] 24)).alloc (.cells #[Value.int .i64 ax, .int .i64 ay] 27)).alloc (.cells #[Value.int .i64 bx, .int .i64 by_] 27) := ⟨_, rfl⟩
      obtain ⟨B, hB⟩ : ∃ B, B = w.heap.size := ⟨_, rfl⟩
      rw [← hW, ← hB]
      obtain ⟨hk, hbe⟩ := map_cells_box w a b _ _ ax ay bx by_ W B hW hB
      obtain ⟨a0, a1, a2, a3, a4, a5, a6, a7⟩ := hk W (Below.refl _ _)
      have HK := hid hk
      have HBE := hid hbe
      clear hW hB hk hbe
      go_wp2_with fail
      refine Calls.mono (h17.out _ _ (HM.out _ (HBE.out W (Below.refl _ _)))) ?_
      rintro e w1 ⟨rfl, hb1⟩
      have HB1 := hid hb1
      obtain ⟨b0, b1, b2, b3, b4, b5, b6, b7⟩ := HK.out w1 hb1
      clear hb1 a0 a1 a2 a3 a4 a5 a6 a7
      go_wp2_with fail
      refine Calls.mono (h39.out _ _ _) ?_
      rintro e w2 ⟨rfl, hb2⟩
      have HB2 := hid (HB1.out.trans (hb2.mono HB1.out.size))
      obtain ⟨c0, c1, c2, c3, c4, c5, c6, c7⟩ := HK.out w2 HB2.out
      clear hb2 b0 b1 b2 b3 b4 b5 b6 b7
      go_wp2_with fail
      refine Calls.mono (H26.out _) ?_
      rintro e w3 ⟨v, rfl, hv, hb3⟩
      obtain ⟨pl, cl, rfl, hcells⟩ := hv
      rw [List.length_map, List.length_range] at hcells ⊢
      obtain ⟨sb, so, rfl, hcs⟩ := hcells (by simp)
      have HB3 := hid (HB2.out.trans (hb3.mono HB2.out.size))
      have HCS : Hid (∀ W' (i : Nat), Below w3.heap.size w3 W' → i ≤ n → W'.cell? ⟨sb, so + i * 2, none⟩ = some (.int .i64 (f i).1) ∧ W'.cell? ⟨sb, so + i * 2 + 1, none⟩ = some (.int .i64 (f i).2)) := fun W' i h hi => by
        have h1 := hcs i (by omega)
        have e : ((List.range (n + 1)).map f).getD i (0, 0) = f i := by simp [show i < n + 1 by omega]
        rw [e] at h1
        rw [h.cell (p := ⟨sb, so + i * 2, none⟩) (lt_of_cell h1.1), h.cell (p := ⟨sb, so + i * 2 + 1, none⟩) (lt_of_cell h1.2)]
        exact h1
      clear hb3 hcs hcells c0 c1 c2 c3 c4 c5 c6 c7 HB1 HB2
      go_wp2_with fail
      go_loopw [8] (fun iv wr => ∃ j : Nat, (j + 1 ≤ n ∨ j = 0) ∧ iv = .int .i64 ((j : Int) + 1) ∧ Hid (Below w3.heap.size w3 wr) ∧ Hid (clearTo ⟨a, b, ts, os⟩ f j = true)) (fun iv _ => n + 1 - (intOf iv).toNat)
      case atStart => exact ⟨0, Or.inr rfl, rfl, hid (Below.refl _ _), rfl⟩
      case round =>
        obtain ⟨j, hj, rfl, HBV, HCL⟩ := hrel
        by_cases hl : j + 1 < n
        · have hl' : (j : Int) + 1 < (n : Int) := by omega
          have hl0 : (0 : Int) ≤ (j : Int) + 1 := by omega
          have hl1 : (j : Int) + 1 < (n : Int) + 1 := by omega
          have H41b := hid (fun W v h => H41.out (j + 1) W v (by omega) (by omega) h)
          have HCT2 := hid (HCT.out j)
          have HCF2 : Hid (rock ⟨a, b, ts, os⟩ (f (j + 1)).1 (f (j + 1)).2 = true → R = false) := fun h => by rw [HS.out, HCF.out j (n - 1) (by omega) h]; simp
          have HWR := hid (HB3.out.trans (HBV.out.mono HB3.out.size))
          have d0 : ∀ x : Nx wr, x.w.cell? ⟨B, 0, none⟩ = some (.int .i64 a) := fun x => (HK.out x.w (HWR.out.trans (x.h.mono HWR.out.size))).1
          have d1 : ∀ x : Nx wr, x.w.cell? ⟨B, 1, none⟩ = some (.int .i64 b) := fun x => (HK.out x.w (HWR.out.trans (x.h.mono HWR.out.size))).2.1
          have d2 : ∀ x : Nx wr, x.w.cell? ⟨B, 2, none⟩ = some (.slice p M c) := fun x => (HK.out x.w (HWR.out.trans (x.h.mono HWR.out.size))).2.2.1
          have d3 : ∀ x : Nx wr, x.w.cell? ⟨B, 3, none⟩ = some (.slice q N d) := fun x => (HK.out x.w (HWR.out.trans (x.h.mono HWR.out.size))).2.2.2.1
          have d4 : ∀ x : Nx wr, x.w.cell? ⟨sb, so + (j + 1) * 2, none⟩ = some (.int .i64 (f (j + 1)).1) := fun x => (HCS.out x.w (j + 1) (HBV.out.trans (x.h.mono HBV.out.size)) (by omega)).1
          have d5 : ∀ x : Nx wr, x.w.cell? ⟨sb, so + (j + 1) * 2 + 1, none⟩ = some (.int .i64 (f (j + 1)).2) := fun x => (HCS.out x.w (j + 1) (HBV.out.trans (x.h.mono HBV.out.size)) (by omega)).2
          have HMX : Hid (∀ x : Nx wr, MapAt x.w (.agg #[.int .i64 a, .int .i64 b, .slice p M c, .slice q N d]) ⟨a, b, ts, os⟩) := fun x => HM.out _ (HBE.out _ (HWR.out.trans (x.h.mono HWR.out.size)))
          generalize (f (j + 1)).1 = X at *
          generalize (f (j + 1)).2 = Y at *
          generalize rock ⟨a, b, ts, os⟩ X Y = K at *
          have hne := Nx.some wr
          go_upto_region 7 with fail
          refine wp_region_nx (by kernel_rfl) (by kernel_rfl) ?_
          repeat (first
            | go_big_quiet_skip
            | (go_big_quiet_want; go_big_quiet_op; first
              | go_big_quiet_on
              | (apply Exists.intro
                 refine ⟨fun x => ?_, ?_⟩
                 · (go_at_call 43; with_reducible exact nx_call x (H41b.out _ _ (HMX.out x)))
                 go_big_quiet_on)))
          refine wpQuiet_nil ?_
          rintro _ ⟨x, rfl⟩
          have HBV2 := hid (HBV.out.trans (x.h.mono HBV.out.size))
          rcases K with _ | _
          · go_wp2
            go_roundw
            case rel => exact ⟨j + 1, by omega, by simp, HBV2, hid (by have := HCT2.out; rw [HCL.out] at this; simpa using this)⟩
            case measure => simp [intOf]; omega
          · have hR := HCF2.out rfl
            subst hR
            go_wp2
            go_ret
            exact ⟨rfl, HBE.out _ (HB3.out.trans (HBV2.out.mono HB3.out.size))⟩
        · have hl' : ((j : Int) + 1 < (n : Int)) = False := by simp; omega
          have hjn : j = n - 1 := by omega
          have hR : R = true := by rw [HS.out, ← hjn, HCL.out]; rfl
          subst hR
          go_wp2
          go_ret
          exact ⟨rfl, HBE.out _ (HB3.out.trans (HBV.out.mono HB3.out.size))⟩
end Go.Proofs.Yteijncfnifebjaa
