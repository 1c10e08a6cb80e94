/- The open map of four by four, as the reference reads it. -/
import Derived.Test.YteijncfnifebjaaView
import Derived.Test.YteijncfnifebjaaRefF
namespace Go.Proofs.Yteijncfnifebjaa
open Go.RowKit
/-- The text of an open map of four by four. -/
def TXT : ByteArray := { data := #[46, 46, 46, 46, 10, 46, 46, 46, 46, 10, 46, 46, 46, 46, 10, 46, 46, 46, 46, 10] }
theorem idx_text (h r : Nat) (hh : h < 4) (hr : r < 5) (hp : 5 * h + r < TXT.size) : (((TXT[5 * h + r]'hp).toNat : Nat) : Int) = if r = 4 then 10 else 46 := by
  have h1 : h = 0 ∨ h = 1 ∨ h = 2 ∨ h = 3 := by omega
  have h2 : r = 0 ∨ r = 1 ∨ r = 2 ∨ r = 3 ∨ r = 4 := by omega
  rcases h1 with rfl | rfl | rfl | rfl <;> rcases h2 with rfl | rfl | rfl | rfl | rfl <;> rfl
/-- An open map of four by four. -/
def M4 : Mp := ⟨4, 4, List.replicate 16 0, List.replicate 16 0⟩
theorem formed4 : formed M4 = true := by decide +kernel
theorem turn_four (w : World) (b : Nat) (x y z u : Value) : Turn b w ((((w.setCell ⟨b, 0, none⟩ x).setCell ⟨b, 1, none⟩ y).setCell ⟨b, 2, none⟩ z).setCell ⟨b, 3, none⟩ u) := by
  refine ⟨rfl, rfl, rfl, by simp, fun k hk => ?_⟩
  rw [Below.heap_setCell _ _ _ _ hk, Below.heap_setCell _ _ _ _ hk, Below.heap_setCell _ _ _ _ hk, Below.heap_setCell _ _ _ _ hk]
theorem OwnI.turn {w w' : World} {b base : Nat} {v : Value} {xs : List Int} (h : OwnI w base v xs) (ht : Turn b w w') (hb : b < base) : OwnI w' base v xs := h.stay fun k hk => ht.block k (by have := (h.block k hk).1; omega)
theorem Gro.apart {a b : World} {u v x : Value} (h : Gro a u b v) (hx : ∀ j, x.ownBlock = some j → u.ownBlock ≠ some j) (hl : ∀ j, x.ownBlock = some j → j < a.heap.size) : ∀ j, x.ownBlock = some j → v.ownBlock ≠ some j := by
  intro j hj he
  rcases h.pl with h1 | h1
  · rw [h1] at he; exact hx j hj he
  · have := h1 j he; have := hl j hj; omega
theorem OwnI.gro {a b : World} {u v x : Value} {base : Nat} {xs : List Int} (ho : OwnI a base x xs) (h : Gro a u b v) (hx : ∀ j, x.ownBlock = some j → u.ownBlock ≠ some j) : OwnI b base x xs := ho.stay fun j hj => h.block j (ho.block j hj).2 (hx j hj)
theorem Gro.below' {a b : World} {u v : Value} (h : Gro a u b v) {base : Nat} (hu : ∀ j, u.ownBlock = some j → base ≤ j) (hb : base ≤ a.heap.size) : Below base a b := ⟨h.os, h.tape, h.output, h.size, fun k hk => h.block k (by omega) (fun he => by have := hu k he; omega)⟩
theorem size24 : (Try.prog.info? 24).map (·.size) = some 4 := by kernel_rfl
set_option maxHeartbeats 4000000 in
theorem read4 (s : ByteArray) (hs : s.size = 20) (hidx : ∀ (h r : Nat), h < 4 → r < 5 → ∀ hp : 5 * h + r < s.size, (((s[5 * h + r]'hp).toNat : Nat) : Int) = if r = 4 then 10 else 46) (w : World) :
    Calls Try.prog 25 #[.string s] w fun e w' => ∃ v, e = .returned (.tuple #[v, .int .i64 0]) ∧ MapAt w' v M4 ∧ Below w.heap.size w w' := by
  have HX : Hid (∀ (i h r : Nat), i = 5 * h + r → h < 4 → r < 5 → ∀ hp : i < s.size, (((s[i]'hp).toNat : Nat) : Int) = if r = 4 then 10 else 46) := by
    rintro i h r rfl hh hr hp
    exact hidx h r hh hr hp
  have h23 : Hid (∀ W v, MapAt W v M4 → Calls Try.prog 24 #[v] W fun e w' => Out W (.bool true) e w') := fun W v h => by
    have := refFormed_any M4 v W h
    rwa [formed4] at this
  have hsz : ((s.size : Nat) : Int) = 20 := by rw [hs]; rfl
  have HSZ := hid (fun (_ : Nat) => hs)
  clear hidx hs
  go_enter Try.func25, Try.ntmps25
  go_upto_region 6 with fail
  obtain ⟨W, hW⟩ : ∃ W, W = ((w.alloc (.cells #[Value.int .i64 0, .int .i64 0, .slice none 0 0, .slice none 0 0] 24)).alloc (.cells #[Value.int .i64 0, .int .i64 0, .slice none 0 0, .slice none 0 0] 24)) := ⟨_, rfl⟩
  obtain ⟨B, hB⟩ : ∃ B, B = w.heap.size := ⟨_, rfl⟩
  rw [← hW, ← hB]
  have HBE : Hid (∀ w', Below (B + 1) W w' → Below w.heap.size w w') := by
    intro w' h
    have h1 : Below w.heap.size w W := by rw [hW]; exact ((Below.refl _ _).alloc (Nat.le_refl _) _).alloc (by simp) _
    exact h1.trans (h.mono (by omega))
  have HRB : Hid (Blk W B [.int .i64 0, .int .i64 0, .slice none 0 0, .slice none 0 0] 24) := by rw [hW, hB]; exact (Blk.new _ _ _).alloc _
  have HC0 : Hid (Blk W (B + 1) [.int .i64 (if (0 : Nat) = 0 then 0 else 4), .int .i64 ((0 : Nat) : Int), .slice none 0 0, .slice none 0 0] 24) := by rw [hW, if_pos rfl]; exact hid (Blk.new' _ _ _ _ (by simp [hB]))
  have HWS : Hid (W.heap.size = B + 2) := hid (by rw [hW, hB]; simp)
  have HB0 := hid (Below.refl (B + 1) W)
  have HB := hid (fun (_ : Nat) => hB)
  have HO0 : Hid (OwnI W (B + 2) (.slice none 0 0) (List.replicate (4 * 0 + 0) 0)) := OwnI.nil _ _
  clear hW hB
  go_loopw [6, 5] (fun iv xv wr => ∃ i h r v1 v2, iv = .int .i64 ((i : Nat) : Int) ∧ Hid (i = 5 * h + r) ∧ xv = .int .i64 ((r : Nat) : Int) ∧ r ≤ 4 ∧ h ≤ 4 ∧ (h = 4 → r = 0) ∧ Hid (Below (B + 1) W wr) ∧ Hid (Blk wr (B + 1) [.int .i64 (if h = 0 then 0 else 4), .int .i64 (h : Int), v1, v2] 24) ∧ Hid (OwnI wr (B + 2) v1 (List.replicate (4 * h + r) 0)) ∧ Hid (OwnI wr (B + 2) v2 (List.replicate (4 * h + r) 0)) ∧ Hid (∀ j, v2.ownBlock = some j → v1.ownBlock ≠ some j)) (fun iv _ _ => 21 - (intOf iv).toNat)
  case atStart => exact ⟨0, 0, 0, _, _, rfl, by exact hid rfl, rfl, by omega, by omega, fun _ => rfl, HB0, HC0, HO0, HO0, fun j hj => by cases hj⟩
  case round =>
    clear HB0 HC0 HO0
    obtain ⟨i, h, r, v1, v2, rfl, HI, rfl, hr, hh, hhr, HB1, HC1, HO1, HO2, HAp⟩ := hrel
    by_cases hend : h = 4
    · obtain rfl := hhr hend
      subst hend
      rw [if_neg (by omega)] at HC1
      have hi20 : i = 20 := HI.out
      subst hi20
      have c0 : wr.cell? ⟨B + 1, 0, none⟩ = some (.int .i64 4) := HC1.out.cell 0
      have c1 : wr.cell? ⟨B + 1, 1, none⟩ = some (.int .i64 4) := HC1.out.cell 1
      have c2 : wr.cell? ⟨B + 1, 2, none⟩ = some v1 := HC1.out.cell 2
      have c3 : wr.cell? ⟨B + 1, 3, none⟩ = some v2 := HC1.out.cell 3
      obtain ⟨p, c, rfl⟩ := HO1.out.form
      obtain ⟨q, d, rfl⟩ := HO2.out.form
      have hm4 : Hid (MapAt wr (.agg #[.int .i64 4, .int .i64 4, .slice p (List.replicate (4 * 4 + 0) (0 : Int)).length c, .slice q (List.replicate (4 * 4 + 0) (0 : Int)).length d]) M4) := ⟨p, c, q, d, rfl, HO1.out.ints, HO2.out.ints⟩
      have hlen : (List.replicate (4 * 4 + 0) (0 : Int)).length = 16 := rfl
      rw [hlen] at c2 c3 hm4 HC1
      clear hlen
      go_wp2_with fail
      refine Calls.mono (h23.out wr _ hm4.out) ?_
      rintro e w2 ⟨rfl, hb2⟩
      have HB2 := hid (HB1.out.trans (hb2.mono (Nat.le_of_lt HC1.out.lt)))
      have HO1' := hid (HO1.out.below hb2)
      have HO2' := hid (HO2.out.below hb2)
      have HC2 := hid (HC1.out.below hb2 HC1.out.lt)
      have HR2 := hid (HRB.out.below HB2.out (Nat.lt_succ_self B))
      clear hb2 hm4 HO1 HO2 HAp HC1 HB1 c0 c1 c2 c3
      have c0 : w2.cell? ⟨B + 1, 0, none⟩ = some (.int .i64 4) := HC2.out.cell 0
      have c1 : w2.cell? ⟨B + 1, 1, none⟩ = some (.int .i64 4) := HC2.out.cell 1
      have c2 : w2.cell? ⟨B + 1, 2, none⟩ = some (.slice p 16 c) := HC2.out.cell 2
      have c3 : w2.cell? ⟨B + 1, 3, none⟩ = some (.slice q 16 d) := HC2.out.cell 3
      have e0 : w2.cell? ⟨B, 0, none⟩ = some (.int .i64 0) := HR2.out.cell 0
      have e1 : w2.cell? ⟨B, 1, none⟩ = some (.int .i64 0) := HR2.out.cell 1
      have e2 : w2.cell? ⟨B, 2, none⟩ = some (.slice none 0 0) := HR2.out.cell 2
      have e3 : w2.cell? ⟨B, 3, none⟩ = some (.slice none 0 0) := HR2.out.cell 3
      have hF0 := HR2.out.frozen 0
      have hF1 := HR2.out.frozen 1
      have hF2 := HR2.out.frozen 2
      have hF3 := HR2.out.frozen 3
      go_wp2
      have hT := turn_four w2 B (.int .i64 4) (.int .i64 4) (.slice p 16 c) (.slice q 16 d)
      have z1 : Blk ((((w2.setCell ⟨B, 0, none⟩ (.int .i64 4)).setCell ⟨B, 1, none⟩ (.int .i64 4)).setCell ⟨B, 2, none⟩ (.slice p 16 c)).setCell ⟨B, 3, none⟩ (.slice q 16 d)) B [.int .i64 4, .int .i64 4, .slice p 16 c, .slice q 16 d] 24 := (((HR2.out.set 0 _).set 1 _).set 2 _).set 3 _
      refine bodyPost_ret (results_cell_tmp Try.results25 rfl rfl z1 Try.underlying24 rfl size24) rfl ⟨_, rfl, ?_, ?_⟩
      · exact ⟨p, c, q, d, rfl, (HO1'.out.turn hT (by omega)).ints, (HO2'.out.turn hT (by omega)).ints⟩
      · exact (HBE.out w2 HB2.out).trans (hT.below (by have := HB.out 0; omega))
    · have his : i < s.size := by rw [HSZ.out 0, HI.out]; omega
      have hx := HX.out i h r HI.out (by omega) (by omega) his
      have c0 : wr.cell? ⟨B + 1, 0, none⟩ = some (.int .i64 (if h = 0 then 0 else 4)) := HC1.out.cell 0
      have c1 : wr.cell? ⟨B + 1, 1, none⟩ = some (.int .i64 (h : Int)) := HC1.out.cell 1
      have f0 := HC1.out.frozen 0
      have f1 := HC1.out.frozen 1
      have hi20 : (i : Int) < 20 := by have := HI.out; omega
      have hi0 : (0 : Int) ≤ (i : Int) := Int.natCast_nonneg _
      by_cases hr4 : r = 4
      · subst hr4
        rw [if_pos rfl] at hx
        have ej : ((4 : Nat) : Int) = 4 := rfl
        rw [ej]
        by_cases h0 : h = 0
        · subst h0
          rw [if_pos rfl] at c0 HC1
          have ez : ((0 : Nat) : Int) = 0 := rfl
          rw [ez] at c1
          go_wp2
          have HT1 := (turn_one wr (B + 1) 0 (.int .i64 4))
          have HT2 := (turn_one (wr.setCell ⟨B + 1, 0, none⟩ (.int .i64 4)) (B + 1) 1 (.int .i64 1))
          have HBn : Hid (Below (B + 1) W ((wr.setCell ⟨B + 1, 0, none⟩ (.int .i64 4)).setCell ⟨B + 1, 1, none⟩ (.int .i64 1))) := (HB1.out.trans (HT1.below (Nat.le_refl _))).trans (HT2.below (Nat.le_refl _))
          have HCn : Hid (Blk ((wr.setCell ⟨B + 1, 0, none⟩ (.int .i64 4)).setCell ⟨B + 1, 1, none⟩ (.int .i64 1)) (B + 1) [.int .i64 (if (1 : Nat) = 0 then 0 else 4), .int .i64 ((1 : Nat) : Int), v1, v2] 24) := (HC1.out.set 0 _).set 1 _
          have HO1n : Hid (OwnI ((wr.setCell ⟨B + 1, 0, none⟩ (.int .i64 4)).setCell ⟨B + 1, 1, none⟩ (.int .i64 1)) (B + 2) v1 (List.replicate (4 * 1 + 0) 0)) := (HO1.out.turn HT1 (by omega)).turn HT2 (by omega)
          have HO2n : Hid (OwnI ((wr.setCell ⟨B + 1, 0, none⟩ (.int .i64 4)).setCell ⟨B + 1, 1, none⟩ (.int .i64 1)) (B + 2) v2 (List.replicate (4 * 1 + 0) 0)) := (HO2.out.turn HT1 (by omega)).turn HT2 (by omega)
          have HIn : Hid (i + 1 = 5 * 1 + 0) := hid (by have := HI.out; omega)
          clear HT1 HT2
          go_roundw
          case rel => exact ⟨i + 1, 1, 0, v1, v2, rfl, HIn, rfl, by omega, by omega, by omega, HBn, HCn, HO1n, HO2n, HAp⟩
          case measure => simp [intOf]; omega
        · rw [if_neg h0] at c0 HC1
          have hh0 : ((h : Int) == 0) = false := by simp; omega
          have hh4 : (h : Int) < 4 := by omega
          have hhn : (0 : Int) ≤ (h : Int) := Int.natCast_nonneg _
          go_wp2
          have HT2 := (turn_one wr (B + 1) 1 (.int .i64 ((h : Int) + 1)))
          have HBn : Hid (Below (B + 1) W (wr.setCell ⟨B + 1, 1, none⟩ (.int .i64 ((h : Int) + 1)))) := HB1.out.trans (HT2.below (Nat.le_refl _))
          have HCn : Hid (Blk (wr.setCell ⟨B + 1, 1, none⟩ (.int .i64 ((h : Int) + 1))) (B + 1) [.int .i64 (if h + 1 = 0 then 0 else 4), .int .i64 ((h + 1 : Nat) : Int), v1, v2] 24) := by
            rw [if_neg (by omega)]; exact HC1.out.set 1 _
          have HO1n : Hid (OwnI (wr.setCell ⟨B + 1, 1, none⟩ (.int .i64 ((h : Int) + 1))) (B + 2) v1 (List.replicate (4 * (h + 1) + 0) 0)) := by
            rw [show 4 * (h + 1) + 0 = 4 * h + 4 by omega]; exact HO1.out.turn HT2 (by omega)
          have HO2n : Hid (OwnI (wr.setCell ⟨B + 1, 1, none⟩ (.int .i64 ((h : Int) + 1))) (B + 2) v2 (List.replicate (4 * (h + 1) + 0) 0)) := by
            rw [show 4 * (h + 1) + 0 = 4 * h + 4 by omega]; exact HO2.out.turn HT2 (by omega)
          have HIn : Hid (i + 1 = 5 * (h + 1) + 0) := hid (by have := HI.out; omega)
          clear HT2
          go_roundw
          case rel => exact ⟨i + 1, h + 1, 0, v1, v2, rfl, HIn, rfl, by omega, by omega, by omega, HBn, HCn, HO1n, HO2n, HAp⟩
          case measure => simp [intOf]; omega
      · rw [if_neg hr4] at hx
        have hr0 : (0 : Int) ≤ (r : Int) := Int.natCast_nonneg _
        have hr3 : (r : Int) ≤ 3 := by omega
        have hwr : wrap64 ((r : Int) + 1) = (r : Int) + 1 := wrap_small ⟨by omega, by omega⟩
        obtain ⟨T, hT⟩ : ∃ T, T = 4 * h + r := ⟨_, rfl⟩
        have HT := hid (fun (_ : Nat) => hT)
        rw [← hT] at HO1 HO2
        have hT16 : T ≤ 16 := by omega
        clear hT
        have c2 : wr.cell? ⟨B + 1, 2, none⟩ = some v1 := HC1.out.cell 2
        generalize hq : (if h = 0 then (0 : Int) else 4) = Wd at *
        obtain ⟨U, hU⟩ : ∃ U, U = wr.alloc (.cells #[Value.int .i64 0] 3) := ⟨_, rfl⟩
        have HUB : Hid (Below wr.heap.size wr U) := by rw [hU]; exact (Below.refl _ _).alloc (Nat.le_refl _) _
        have HUI : Hid (IntsAt U (.slice (some ⟨wr.heap.size, 0, none⟩) 1 1) [0]) := by rw [hU]; exact ints_one wr (.int .i64 0) 0 rfl
        have HCU := hid (HC1.out.below HUB.out HC1.out.lt)
        have HO1U := hid (HO1.out.below HUB.out)
        have HO2U := hid (HO2.out.below HUB.out)
        have HBU := hid (HB1.out.trans (HUB.out.mono (Nat.le_of_lt HC1.out.lt)))
        have HSU : Hid (B + 2 ≤ U.heap.size) := Nat.le_trans HC1.out.lt HUB.out.size
        have HLn : Hid ((List.replicate T (0 : Int)).length + [(0 : Int)].length = T + 1) := hid (by simp)
        rw [hU] at HUI HCU HO1U HO2U HBU HSU
        have HQ := hid (fun (_ : Nat) => hq)
        clear hU HUB hq
        go_upto_region 26 with (first
          | ((with_reducible refine wpL_appendN (B + 2) v1 (.slice (some ⟨wr.heap.size, 0, none⟩) 1 1) (List.replicate T 0) [0] (T + 1) (by simp) HLn.out ?_ ?_ HO1U.out HUI.out (by omega) HSU.out ?_); (rfl); (rfl); (intro pa ca w5 ho5 hg5); (have HO5 := hid ho5); (have HG5 := hid hg5); (have HC5 := hid (hg5.blk HCU.out (fun he => by have := (HO1U.out.block _ he).1; omega))); (have q2 := HC5.out.cell 2); (have fz2 := HC5.out.frozen 2); clear ho5 hg5; (simp only [Act.put, List.setIfInBounds_toArray, List.set_cons_zero, List.set_cons_succ])))
        have HT5 := hid (turn_one w5 (B + 1) 2 (.slice pa (T + 1) ca))
        have HC6 : Hid (Blk (w5.setCell ⟨B + 1, 2, none⟩ (.slice pa (T + 1) ca)) (B + 1) [.int .i64 Wd, .int .i64 (h : Int), .slice pa (T + 1) ca, v2] 24) := HC5.out.set 2 _
        have HO6 : Hid (OwnI (w5.setCell ⟨B + 1, 2, none⟩ (.slice pa (T + 1) ca)) (B + 2) (.slice pa (T + 1) ca) (List.replicate T 0 ++ [0])) := HO5.out.turn HT5.out (by omega)
        have HV6 : Hid (OwnI (w5.setCell ⟨B + 1, 2, none⟩ (.slice pa (T + 1) ca)) (B + 2) v2 (List.replicate T 0)) := (HO2U.out.gro HG5.out HAp.out).turn HT5.out (by omega)
        have HB6 : Hid (Below (B + 1) W (w5.setCell ⟨B + 1, 2, none⟩ (.slice pa (T + 1) ca))) := (HBU.out.trans (HG5.out.below' (fun j hj => by have := (HO1U.out.block j hj).1; omega) (by have := HSU.out; omega))).trans (HT5.out.below (Nat.le_refl _))
        have HA6 : Hid (∀ j, v2.ownBlock = some j → Value.ownBlock (.slice pa (T + 1) ca) ≠ some j) := HG5.out.apart HAp.out (fun j hj => (HO2U.out.block j hj).2)
        obtain ⟨Y, hY⟩ : ∃ Y, Y = w5.setCell ⟨B + 1, 2, none⟩ (.slice pa (T + 1) ca) := ⟨_, rfl⟩
        rw [← hY] at HC6 HO6 HV6 HB6 ⊢
        clear hY HT5 HO5 HG5 HC5 q2 fz2 HO1U HO2U HUI HCU HBU HSU HO1 HO2 HC1 HB1 HAp c0 c1 c2 f0 f1
        have c3 : Y.cell? ⟨B + 1, 3, none⟩ = some v2 := HC6.out.cell 3
        obtain ⟨U, hU⟩ : ∃ U, U = Y.alloc (.cells #[Value.int .i64 0] 3) := ⟨_, rfl⟩
        have HUB : Hid (Below Y.heap.size Y U) := by rw [hU]; exact (Below.refl _ _).alloc (Nat.le_refl _) _
        have HUI : Hid (IntsAt U (.slice (some ⟨Y.heap.size, 0, none⟩) 1 1) [0]) := by rw [hU]; exact ints_one Y (.int .i64 0) 0 rfl
        have HCU := hid (HC6.out.below HUB.out HC6.out.lt)
        have HO1U := hid (HO6.out.below HUB.out)
        have HO2U := hid (HV6.out.below HUB.out)
        have HBU := hid (HB6.out.trans (HUB.out.mono (Nat.le_of_lt HC6.out.lt)))
        have HSU : Hid (B + 2 ≤ U.heap.size) := Nat.le_trans HC6.out.lt HUB.out.size
        have HA7 : Hid (∀ j, Value.ownBlock (.slice pa (T + 1) ca) = some j → v2.ownBlock ≠ some j) := fun j hj he => HA6.out j he hj
        rw [hU] at HUI HCU HO1U HO2U HBU HSU
        clear hU HUB
        go_upto_region 27 with (first
          | ((with_reducible refine wpL_appendN (B + 2) v2 (.slice (some ⟨Y.heap.size, 0, none⟩) 1 1) (List.replicate T 0) [0] (T + 1) (by simp) HLn.out ?_ ?_ HO2U.out HUI.out (by omega) HSU.out ?_); (rfl); (rfl); (intro pb cb w7 ho5 hg5); (have HO5 := hid ho5); (have HG5 := hid hg5); (have HC5 := hid (hg5.blk HCU.out (fun he => by have := (HO2U.out.block _ he).1; omega))); (have q2 := HC5.out.cell 3); (have fz2 := HC5.out.frozen 3); clear ho5 hg5; (simp only [Act.put, List.setIfInBounds_toArray, List.set_cons_zero, List.set_cons_succ])))
        have HT5 := hid (turn_one w7 (B + 1) 3 (.slice pb (T + 1) cb))
        have HC8 : Hid (Blk (w7.setCell ⟨B + 1, 3, none⟩ (.slice pb (T + 1) cb)) (B + 1) [.int .i64 Wd, .int .i64 (h : Int), .slice pa (T + 1) ca, .slice pb (T + 1) cb] 24) := HC5.out.set 3 _
        have HO8 : Hid (OwnI (w7.setCell ⟨B + 1, 3, none⟩ (.slice pb (T + 1) cb)) (B + 2) (.slice pb (T + 1) cb) (List.replicate T 0 ++ [0])) := HO5.out.turn HT5.out (by omega)
        have HV8 : Hid (OwnI (w7.setCell ⟨B + 1, 3, none⟩ (.slice pb (T + 1) cb)) (B + 2) (.slice pa (T + 1) ca) (List.replicate T 0 ++ [0])) := (HO1U.out.gro HG5.out HA7.out).turn HT5.out (by omega)
        have HB8 : Hid (Below (B + 1) W (w7.setCell ⟨B + 1, 3, none⟩ (.slice pb (T + 1) cb))) := (HBU.out.trans (HG5.out.below' (fun j hj => by have := (HO2U.out.block j hj).1; omega) (by have := HSU.out; omega))).trans (HT5.out.below (Nat.le_refl _))
        have HA8 : Hid (∀ j, Value.ownBlock (.slice pb (T + 1) cb) = some j → Value.ownBlock (.slice pa (T + 1) ca) ≠ some j) := fun j hj he => HG5.out.apart HA7.out (fun j hj => (HO1U.out.block j hj).2) j he hj
        obtain ⟨Z, hZ⟩ : ∃ Z, Z = w7.setCell ⟨B + 1, 3, none⟩ (.slice pb (T + 1) cb) := ⟨_, rfl⟩
        rw [← hZ] at HC8 HO8 HV8 HB8 ⊢
        clear hZ HT5 HO5 HG5 HC5 q2 fz2 HO1U HO2U HUI HCU HBU HSU HC6 HO6 HV6 HB6 HA6 HA7 c3
        have eT : List.replicate T (0 : Int) ++ [0] = List.replicate (4 * h + (r + 1)) 0 := by
          rw [show 4 * h + (r + 1) = T + 1 by rw [HT.out 0]; omega, List.replicate_succ']
        rw [eT] at HO8 HV8
        have HIn : Hid (i + 1 = 5 * h + (r + 1)) := hid (by have := HI.out; omega)
        go_wp2
        go_roundw
        case rel => exact ⟨i + 1, h, r + 1, _, _, rfl, HIn, rfl, by omega, by omega, by omega, HB8, by rw [HQ.out 0]; exact HC8, HV8, HO8, HA8⟩
        case measure => simp [intOf]; omega
end Go.Proofs.Yteijncfnifebjaa
