/- The reference: Step. -/
import Derived.Test.YtemcbonmlmobkaaRefFind
namespace Go.Proofs.Ytemcbonmlmobkaa
open Go.RowKit
set_option maxHeartbeats 4000000 in
theorem refStep_any (m : Mp) (v : Value) (p1 : Option Addr) (N1 c1 : Nat) (bl : List Cl) (ax ay bx by_ : Int) (w : World) (hm : MapAt w v m) (hbl : CellsAt w (.slice p1 N1 c1) bl) (hN : N1 ≤ 1000) :
    Calls Try.prog 13 #[v, .slice p1 N1 c1, C ax ay, C bx by_] w fun e w' => Out w (.tuple #[C (stepV (findV m bl (ax, ay) (bx, by_) 1000000)).1.1 (stepV (findV m bl (ax, ay) (bx, by_) 1000000)).1.2, .bool (stepV (findV m bl (ax, ay) (bx, by_) 1000000)).2]) e w' := by
  have h10 : Hid (∀ W, Below w.heap.size w W → Calls Try.prog 11 #[v, .slice p1 N1 c1, C ax ay, C bx by_, .int .i64 1000000] W fun e w' => OutFind W (findV m bl (ax, ay) (bx, by_) 1000000) e w') := fun W h => refFind_any m v bl p1 N1 c1 ax ay bx by_ _ W (hm.below h) (hbl.below h) hN
  have HOK : Hid (∀ l e, findV m bl (ax, ay) (bx, by_) 1000000 = (l, e) → l.length ≤ 1000) := fun l e h => by
    rcases findV_ok h with ⟨_, n, _, _, _, _, hn, _, hl⟩ | ⟨_, rfl⟩
    · omega
    · simp
  generalize findV m bl (ax, ay) (bx, by_) 1000000 = R at *
  obtain ⟨p, c, q, d, rfl, -, -⟩ := hm
  clear hbl
  obtain ⟨S1, hS1⟩ : ∃ z, z = Value.slice p m.ts.length c := ⟨_, rfl⟩
  obtain ⟨S2, hS2⟩ : ∃ z, z = Value.slice q m.os.length d := ⟨_, rfl⟩
  obtain ⟨S3, hS3⟩ : ∃ z, z = Value.slice p1 N1 c1 := ⟨_, rfl⟩
  obtain ⟨mW, hmW⟩ : ∃ z, z = m.W := ⟨_, rfl⟩
  obtain ⟨mH, hmH⟩ : ∃ z, z = m.H := ⟨_, rfl⟩
  rw [← hS1, ← hS2, ← hS3, ← hmW, ← hmH] at h10 ⊢
  clear hS1 hS2 hS3 hmW hmH hN
  unfold C Out at *
  obtain ⟨l, e⟩ := R
  have hl1000 := HOK.out l e rfl
  obtain ⟨RV, hRV⟩ : ∃ RV, RV = stepV (l, e) := ⟨_, rfl⟩
  rw [← hRV]
  have HRV : Hid (RV = stepV (l, e)) := hRV
  clear hRV
  go_enter Try.func13, Try.ntmps13
  go_upto_region 1 with fail
  obtain ⟨W, hW⟩ : ∃ W, W = (((w.alloc (.cells #[Value.int .i64 mW, .int .i64 mH, S1, S2] 24)).alloc (.cells #[Value.int .i64 ax, .int .i64 ay] 27)).alloc (.cells #[Value.int .i64 bx, .int .i64 by_] 27)).alloc (.cells #[Value.int .i64 0, .int .i64 0] 27) := ⟨_, rfl⟩
  obtain ⟨W0, hW0⟩ : ∃ W0, W0 = ((w.alloc (.cells #[Value.int .i64 mW, .int .i64 mH, S1, S2] 24)).alloc (.cells #[Value.int .i64 ax, .int .i64 ay] 27)).alloc (.cells #[Value.int .i64 bx, .int .i64 by_] 27) := ⟨_, rfl⟩
  obtain ⟨B, hB⟩ : ∃ B, B = w.heap.size := ⟨_, rfl⟩
  rw [← hW, ← hB]
  rw [← hW0] at hW
  obtain ⟨hk, hbe, hsz⟩ := map_cells_box w mW mH S1 S2 ax ay bx by_ W0 B hW0 hB
  have HLB : Hid (w.heap.size ≤ B) := hid (by omega)
  have hWW : Below W0.heap.size W0 W := by rw [hW]; exact (Below.refl _ _).alloc (Nat.le_refl _) _
  have HRB : Hid (Blk W (B + 1 + 1 + 1) [.int .i64 0, .int .i64 0] 27) := by rw [hW]; exact Blk.new' _ _ _ _ (by omega)
  obtain ⟨a0, a1, a2, a3, a4, a5, a6, a7⟩ := hk W hWW
  have HWB := hid (hbe W hWW)
  clear hW hW0 hB hk hbe hsz hWW
  go_wp2_with fail
  refine Calls.mono (h10.out W HWB.out) ?_
  rintro e' w2 ⟨s, rfl, ho, hb2⟩
  obtain ⟨p2, c2, rfl⟩ := ho.form
  have HR2 := hid (HRB.out.below hb2 HRB.out.lt)
  have HB2 := hid (HWB.out.trans (hb2.mono HWB.out.size))
  have HO2 := hid ho
  have r0 : w2.cell? ⟨B + 1 + 1 + 1, 0, none⟩ = some (.int .i64 0) := HR2.out.cell 0
  have r1 : w2.cell? ⟨B + 1 + 1 + 1, 1, none⟩ = some (.int .i64 0) := HR2.out.cell 1
  have f0 := HR2.out.frozen 0
  have f1 := HR2.out.frozen 1
  clear hb2 ho a0 a1 a2 a3 a4 a5 a6 a7 HRB HWB
  by_cases he : e = 0
  · subst he
    cases l with
    | nil =>
      go_wp2
      have hT := turn_two w2 (B + 1 + 1 + 1) (.int .i64 0) (.int .i64 0)
      have z1 : Blk ((w2.setCell ⟨B + 1 + 1 + 1, 0, none⟩ (.int .i64 0)).setCell ⟨B + 1 + 1 + 1, 1, none⟩ (.int .i64 0)) (B + 1 + 1 + 1) [(.int .i64 0), (.int .i64 0)] 27 := (HR2.out.set 0 _).set 1 _
      exact bodyPost_ret (results_cell_tmp Try.results13 rfl rfl z1 Try.underlying27 rfl size27) rfl ⟨by rw [HRV.out]; simp [stepV], HB2.out.trans (hT.below (by have := HLB.out; omega))⟩
    | cons z l =>
      obtain ⟨sb, so, rfl, d0, d1⟩ := HO2.out.cells.at (i := 0) (by simp)
      obtain ⟨z1', z2'⟩ := z
      have d0' : w2.cell? ⟨sb, so, none⟩ = some (.int .i64 z1') := d0
      have d1' : w2.cell? ⟨sb, so + 1, none⟩ = some (.int .i64 z2') := by simpa using d1
      obtain ⟨K, hK⟩ : ∃ K, K = ((z1', z2') :: l).length := ⟨_, rfl⟩
      have hK0 : 0 < (K : Int) := by rw [hK]; simp only [List.length_cons]; omega
      have hK1 : ((K : Int) == 0) = false := by simp; omega
      rw [← hK]
      clear hK d0 d1
      go_wp2
      have hT := turn_two w2 (B + 1 + 1 + 1) (.int .i64 z1') (.int .i64 z2')
      have z1 : Blk ((w2.setCell ⟨B + 1 + 1 + 1, 0, none⟩ (.int .i64 z1')).setCell ⟨B + 1 + 1 + 1, 1, none⟩ (.int .i64 z2')) (B + 1 + 1 + 1) [(.int .i64 z1'), (.int .i64 z2')] 27 := (HR2.out.set 0 _).set 1 _
      exact bodyPost_ret (results_cell_tmp Try.results13 rfl rfl z1 Try.underlying27 rfl size27) rfl ⟨by rw [HRV.out]; simp [stepV], HB2.out.trans (hT.below (by have := HLB.out; omega))⟩
  · have hne : (e != 0) = true := by simpa using he
    go_wp2
    have hT := turn_two w2 (B + 1 + 1 + 1) (.int .i64 0) (.int .i64 0)
    have z1 : Blk ((w2.setCell ⟨B + 1 + 1 + 1, 0, none⟩ (.int .i64 0)).setCell ⟨B + 1 + 1 + 1, 1, none⟩ (.int .i64 0)) (B + 1 + 1 + 1) [(.int .i64 0), (.int .i64 0)] 27 := (HR2.out.set 0 _).set 1 _
    exact bodyPost_ret (results_cell_tmp Try.results13 rfl rfl z1 Try.underlying27 rfl size27) rfl ⟨by rw [HRV.out]; simp [stepV, he], HB2.out.trans (hT.below (by have := HLB.out; omega))⟩
end Go.Proofs.Ytemcbonmlmobkaa
