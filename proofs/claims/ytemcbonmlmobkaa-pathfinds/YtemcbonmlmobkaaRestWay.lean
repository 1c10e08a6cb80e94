/- What is left of a way is the way from there; Step. -/
import Derived.Test.YtemcbonmlmobkaaFind
import Derived.Test.YtemcbonmlmobkaaBackWay
import Derived.Test.YtemcbonmlmobkaaSmall
namespace Go.Proofs.Ytemcbonmlmobkaa
open Go.RowKit
theorem way_succ {m : Mp} {bl : List Cl} {b c : Cl} {n : Nat} (hd : ds m bl b (n + 1) c = true) : ∃ x, way m bl b (n + 1) c = x :: way m bl b n x ∧ ds m bl b n x = true ∧ x ∈ nr m c := by
  obtain ⟨y, hy, hp, hyd⟩ := ds_succ hd
  cases hf : (nr m c).find? (fun x => (x == b || pass m bl x) && ds m bl b n x) with
  | none =>
    rw [List.find?_eq_none] at hf
    refine absurd ?_ (hf y hy)
    rw [Bool.and_eq_true, Bool.or_eq_true, beq_iff_eq]
    exact ⟨hp, hyd⟩
  | some x =>
    have h1 := List.find?_some hf
    rw [Bool.and_eq_true] at h1
    exact ⟨x, by rw [way, hf], h1.2, List.mem_of_find?_eq_some hf⟩
theorem way_rest {m : Mp} {bl : List Cl} {b : Cl} (hf : formed m = true) : ∀ {n : Nat} {c : Cl}, ds m bl b n c = true → ∀ i, i < n → inn m ((way m bl b n c).getD i (0, 0)) = true ∧ ds m bl b (n - 1 - i) ((way m bl b n c).getD i (0, 0)) = true ∧ way m bl b (n - 1 - i) ((way m bl b n c).getD i (0, 0)) = (way m bl b n c).drop (i + 1)
  | 0, _, _, i, hi => by omega
  | n + 1, c, hd, 0, _ => by
    obtain ⟨x, h1, h2, h3⟩ := way_succ hd
    rw [h1]
    exact ⟨nr_in hf h3, h2, rfl⟩
  | n + 1, c, hd, i + 1, hi => by
    obtain ⟨x, h1, h2, h3⟩ := way_succ hd
    obtain ⟨k1, k2, k3⟩ := way_rest hf h2 i (by omega)
    rw [h1]
    rw [List.getD_cons_succ, show n + 1 - 1 - (i + 1) = n - 1 - i by omega]
    exact ⟨k1, k2, k3⟩
/-- What Find says with no errno. -/
theorem findV_ok {m : Mp} {bl : List Cl} {a b : Cl} {most : Int} {l : List Cl} {e : Int} (h : findV m bl a b most = (l, e)) : e = 0 ∧ (∃ n, formed m = true ∧ inn m a = true ∧ inn m b = true ∧ ds m bl b n a = true ∧ n ≤ 1000 ∧ l = way m bl b n a ∧ l.length = n) ∨ e ≠ 0 ∧ l = [] := by
  unfold findV at h
  split at h
  · cases h; exact Or.inr ⟨by decide, rfl⟩
  · rename_i hf
    split at h
    · cases h; exact Or.inr ⟨by decide, rfl⟩
    · rename_i hi
      split at h
      · cases h; exact Or.inr ⟨by decide, rfl⟩
      · rename_i n hr
        split at h
        · cases h; exact Or.inr ⟨by decide, rfl⟩
        · rename_i hm
          cases h
          rw [List.find?_range_eq_some] at hr
          obtain ⟨h1, h2, h3⟩ := hr
          rw [List.mem_range] at h2
          have hi' : inn m a = true ∧ inn m b = true := by simpa using hi
          have hd : ds m bl b n a = true := ds_iff.2 ⟨h1, fun k hk => by simpa using h3 k hk⟩
          exact Or.inl ⟨rfl, n, by simpa using hf, hi'.1, hi'.2, hd, by omega, rfl, way_length hd⟩
/-- Find where there is a shortest way. -/
theorem findV_at {m : Mp} {bl : List Cl} {a b : Cl} {most : Int} {n : Nat} (hf : formed m = true) (ha : inn m a = true) (hb : inn m b = true) (hd : ds m bl b n a = true) (hn : n ≤ 1000) (hm : (n : Int) ≤ most) : findV m bl a b most = (way m bl b n a, 0) := by
  unfold findV
  rw [if_neg (by simp [hf]), if_neg (by simp [ha, hb])]
  rw [ds_iff] at hd
  rw [find_range (by omega) hd.1 hd.2]
  simp only
  rw [if_neg (by omega)]
theorem size27 : (Try.prog.info? 27).map (·.size) = some 2 := by kernel_rfl
/-- What Step answers. -/
def stepV (r : List Cl × Int) : Cl × Bool := if r.2 = 0 ∧ r.1 ≠ [] then (r.1.getD 0 (0, 0), true) else ((0, 0), false)
set_option maxHeartbeats 4000000 in
theorem step_any (m : Mp) (v u : Value) (bl : List Cl) (ax ay bx by_ : Int) (w : World) (hm : MapAt w v m) (hbl : CellsAt w u bl) (hN : bl.length ≤ 1000) :
    Calls Try.prog 12 #[v, u, C ax ay, C bx by_] w fun e w' => Out w (.tuple #[C (stepV (findV m bl (ax, ay) (bx, by_) 9223372036854775807)).1.1 (stepV (findV m bl (ax, ay) (bx, by_) 9223372036854775807)).1.2, .bool (stepV (findV m bl (ax, ay) (bx, by_) 9223372036854775807)).2]) e w' := by
  have h10 : Hid (∀ W, Below w.heap.size w W → Calls Try.prog 10 #[v, u, C ax ay, C bx by_, .int .i64 9223372036854775807] W fun e w' => OutFind W (findV m bl (ax, ay) (bx, by_) 9223372036854775807) e w') := fun W h => find_any m v u bl ax ay bx by_ _ W (hm.below h) (hbl.below h) hN
  have HOK : Hid (∀ l e, findV m bl (ax, ay) (bx, by_) 9223372036854775807 = (l, e) → l.length ≤ 1000) := fun l e h => by
    rcases findV_ok h with ⟨_, n, _, _, _, _, hn, _, hl⟩ | ⟨_, rfl⟩
    · omega
    · simp
  generalize findV m bl (ax, ay) (bx, by_) 9223372036854775807 = R at *
  obtain ⟨p, c, q, d, rfl, -, -⟩ := hm
  obtain ⟨r, rc, rfl, -⟩ := hbl
  obtain ⟨S1, hS1⟩ : ∃ z, z = Value.slice p m.ts.length c := ⟨_, rfl⟩
  obtain ⟨S2, hS2⟩ : ∃ z, z = Value.slice q m.os.length d := ⟨_, rfl⟩
  obtain ⟨S3, hS3⟩ : ∃ z, z = Value.slice r bl.length rc := ⟨_, rfl⟩
  obtain ⟨mW, hmW⟩ : ∃ z, z = m.W := ⟨_, rfl⟩
  obtain ⟨mH, hmH⟩ : ∃ z, z = m.H := ⟨_, rfl⟩
  rw [← hS1, ← hS2, ← hS3, ← hmW, ← hmH] at h10 ⊢
  clear hS1 hS2 hS3 hmW hmH hN
  unfold C Out at *
  obtain ⟨l, e⟩ := R
  have hl1000 := HOK.out l e rfl
  obtain ⟨RV, hRV⟩ : ∃ RV, RV = stepV (l, e) := ⟨_, rfl⟩
  rw [← hRV]
  have HRV : Hid (RV = stepV (l, e)) := hRV
  clear hRV
  go_enter Try.func12, Try.ntmps12
  go_upto_region 1 with fail
  obtain ⟨W, hW⟩ : ∃ W, W = (((w.alloc (.cells #[Value.int .i64 mW, .int .i64 mH, S1, S2] 24)).alloc (.cells #[Value.int .i64 ax, .int .i64 ay] 27)).alloc (.cells #[Value.int .i64 bx, .int .i64 by_] 27)).alloc (.cells #[Value.int .i64 0, .int .i64 0] 27) := ⟨_, rfl⟩
  obtain ⟨W0, hW0⟩ : ∃ W0, W0 = ((w.alloc (.cells #[Value.int .i64 mW, .int .i64 mH, S1, S2] 24)).alloc (.cells #[Value.int .i64 ax, .int .i64 ay] 27)).alloc (.cells #[Value.int .i64 bx, .int .i64 by_] 27) := ⟨_, rfl⟩
  obtain ⟨B, hB⟩ : ∃ B, B = w.heap.size := ⟨_, rfl⟩
  rw [← hW, ← hB]
  rw [← hW0] at hW
  obtain ⟨hk, hbe, hsz⟩ := map_cells_box w mW mH S1 S2 ax ay bx by_ W0 B hW0 hB
  have HLB : Hid (w.heap.size ≤ B) := hid (by omega)
  have hWW : Below W0.heap.size W0 W := by rw [hW]; exact (Below.refl _ _).alloc (Nat.le_refl _) _
  have HRB : Hid (Blk W (B + 1 + 1 + 1) [.int .i64 0, .int .i64 0] 27) := by rw [hW]; exact Blk.new' _ _ _ _ (by omega)
  obtain ⟨a0, a1, a2, a3, a4, a5, a6, a7⟩ := hk W hWW
  have HWB := hid (hbe W hWW)
  clear hW hW0 hB hk hbe hsz hWW
  go_wp2_with fail
  refine Calls.mono (h10.out W HWB.out) ?_
  rintro e' w2 ⟨s, rfl, ho, hb2⟩
  obtain ⟨p2, c2, rfl⟩ := ho.form
  have HR2 := hid (HRB.out.below hb2 HRB.out.lt)
  have HB2 := hid (HWB.out.trans (hb2.mono HWB.out.size))
  have HO2 := hid ho
  have r0 : w2.cell? ⟨B + 1 + 1 + 1, 0, none⟩ = some (.int .i64 0) := HR2.out.cell 0
  have r1 : w2.cell? ⟨B + 1 + 1 + 1, 1, none⟩ = some (.int .i64 0) := HR2.out.cell 1
  have f0 := HR2.out.frozen 0
  have f1 := HR2.out.frozen 1
  clear hb2 ho a0 a1 a2 a3 a4 a5 a6 a7 HRB HWB
  by_cases he : e = 0
  · subst he
    cases l with
    | nil =>
      go_wp2
      have hT := turn_two w2 (B + 1 + 1 + 1) (.int .i64 0) (.int .i64 0)
      have z1 : Blk ((w2.setCell ⟨B + 1 + 1 + 1, 0, none⟩ (.int .i64 0)).setCell ⟨B + 1 + 1 + 1, 1, none⟩ (.int .i64 0)) (B + 1 + 1 + 1) [(.int .i64 0), (.int .i64 0)] 27 := (HR2.out.set 0 _).set 1 _
      exact bodyPost_ret (results_cell_tmp Try.results12 rfl rfl z1 Try.underlying27 rfl size27) rfl ⟨by rw [HRV.out]; simp [stepV], HB2.out.trans (hT.below (by have := HLB.out; omega))⟩
    | cons z l =>
      obtain ⟨sb, so, rfl, d0, d1⟩ := HO2.out.cells.at (i := 0) (by simp)
      obtain ⟨z1', z2'⟩ := z
      have d0' : w2.cell? ⟨sb, so, none⟩ = some (.int .i64 z1') := d0
      have d1' : w2.cell? ⟨sb, so + 1, none⟩ = some (.int .i64 z2') := by simpa using d1
      obtain ⟨K, hK⟩ : ∃ K, K = ((z1', z2') :: l).length := ⟨_, rfl⟩
      have hK0 : 0 < (K : Int) := by rw [hK]; simp only [List.length_cons]; omega
      have hK1 : ((K : Int) == 0) = false := by simp; omega
      rw [← hK]
      clear hK d0 d1
      go_wp2
      have hT := turn_two w2 (B + 1 + 1 + 1) (.int .i64 z1') (.int .i64 z2')
      have z1 : Blk ((w2.setCell ⟨B + 1 + 1 + 1, 0, none⟩ (.int .i64 z1')).setCell ⟨B + 1 + 1 + 1, 1, none⟩ (.int .i64 z2')) (B + 1 + 1 + 1) [(.int .i64 z1'), (.int .i64 z2')] 27 := (HR2.out.set 0 _).set 1 _
      exact bodyPost_ret (results_cell_tmp Try.results12 rfl rfl z1 Try.underlying27 rfl size27) rfl ⟨by rw [HRV.out]; simp [stepV], HB2.out.trans (hT.below (by have := HLB.out; omega))⟩
  · have hne : (e != 0) = true := by simpa using he
    go_wp2
    have hT := turn_two w2 (B + 1 + 1 + 1) (.int .i64 0) (.int .i64 0)
    have z1 : Blk ((w2.setCell ⟨B + 1 + 1 + 1, 0, none⟩ (.int .i64 0)).setCell ⟨B + 1 + 1 + 1, 1, none⟩ (.int .i64 0)) (B + 1 + 1 + 1) [(.int .i64 0), (.int .i64 0)] 27 := (HR2.out.set 0 _).set 1 _
    exact bodyPost_ret (results_cell_tmp Try.results12 rfl rfl z1 Try.underlying27 rfl size27) rfl ⟨by rw [HRV.out]; simp [stepV, he], HB2.out.trans (hT.below (by have := HLB.out; omega))⟩
end Go.Proofs.Ytemcbonmlmobkaa
