/- awake 8, few 9. -/
import Derived.Test.YteijncfnifebjaaOpen4
namespace Go.Proofs.Yteijncfnifebjaa
open Go.RowKit
theorem vis4 : vis M4 [(0, 0, 1)] 1 0 = true := by decide +kernel
theorem vis4' : vis M4 [(0, 0, 1)] 2 0 = false := by decide +kernel
set_option maxRecDepth 20000 in
set_option maxHeartbeats 4000000 in
theorem awake_any (w : World) : Calls Try.prog 8 #[] w fun e w' => Out w (.bool true) e w' := by
  have h25 : Hid (∀ W, Calls Try.prog 25 #[.string TXT] W fun e w' => ∃ v, e = .returned (.tuple #[v, .int .i64 0]) ∧ MapAt w' v M4 ∧ Below W.heap.size W w') := fun W => read4 TXT rfl idx_text W
  have h14 : Hid (∀ W v u, MapAt W v M4 → RowAt encY 3 W u [(0, 0, 1)] → Calls Try.prog 14 #[v, C 1 0, u] W fun e w' => Out W (.bool true) e w') := fun W v u h h' => by
    have := visible_any M4 v u 1 0 _ W h h' (by decide)
    rwa [vis4] at this
  have h14b : Hid (∀ W v u, MapAt W v M4 → RowAt encY 3 W u [(0, 0, 1)] → Calls Try.prog 14 #[v, C 2 0, u] W fun e w' => Out W (.bool false) e w') := fun W v u h h' => by
    have := visible_any M4 v u 2 0 _ W h h' (by decide)
    rwa [vis4'] at this
  unfold Out at *
  unfold C at *
  have eT : (Value.string { data := #[46, 46, 46, 46, 10, 46, 46, 46, 46, 10, 46, 46, 46, 46, 10, 46, 46, 46, 46, 10] }) = .string TXT := rfl
  go_enter Try.func8, Try.ntmps8
  go_wp2_with fail
  refine Calls.mono (h25.out w) ?_
  rintro e w1 ⟨v, rfl, hm, hb1⟩
  have HM1 := hid hm
  obtain ⟨p, c, q, d, hv, -, -⟩ := hm
  have hv' : v = .agg #[.int .i64 4, .int .i64 4, .slice p 16 c, .slice q 16 d] := hv
  subst hv'
  obtain ⟨U, hU⟩ : ∃ U, U = w1.alloc (.cells #[.int .i64 4, .int .i64 4, .slice p 16 c, .slice q 16 d] 24) := ⟨_, rfl⟩
  obtain ⟨g, hg⟩ : ∃ g, g = w1.heap.size := ⟨_, rfl⟩
  have HUB : Hid (Below w1.heap.size w1 U) := by rw [hU]; exact (Below.refl _ _).alloc (Nat.le_refl _) _
  have HUG : Hid (Blk U g [.int .i64 4, .int .i64 4, .slice p 16 c, .slice q 16 d] 24) := by rw [hU, hg]; exact Blk.new _ _ _
  have HMU := hid (HM1.out.below HUB.out)
  have HBU := hid (hb1.trans (HUB.out.mono hb1.size))
  have HU := hid (fun (_ : Nat) => hU)
  have HG := hid (fun (_ : Nat) => hg)
  clear hU hg hv hb1
  go_upto_region 2 with fail
  rw [← HU.out 0, ← HG.out 0]
  have c0 : U.cell? ⟨g, 0, none⟩ = some (.int .i64 4) := HUG.out.cell 0
  have c1 : U.cell? ⟨g, 1, none⟩ = some (.int .i64 4) := HUG.out.cell 1
  have c2 : U.cell? ⟨g, 2, none⟩ = some (.slice p 16 c) := HUG.out.cell 2
  have c3 : U.cell? ⟨g, 3, none⟩ = some (.slice q 16 d) := HUG.out.cell 3
  clear HU HG
  obtain ⟨Z, hZ⟩ : ∃ Z, Z = U.alloc (.cells #[Value.int .i64 0, .int .i64 0, .int .i64 1] 48) := ⟨_, rfl⟩
  have HZB : Hid (Below U.heap.size U Z) := by rw [hZ]; exact (Below.refl _ _).alloc (Nat.le_refl _) _
  have HZG : Hid (RowAt encY 3 Z (.slice (some ⟨U.heap.size, 0, none⟩) 1 1) [(0, 0, 1)]) := by rw [hZ]; exact RowAt.one _ _ _ _ rfl
  have HMZ := hid (HMU.out.below HZB.out)
  have HBZ := hid (HBU.out.trans (HZB.out.mono HBU.out.size))
  have HGZ := hid (HUG.out.below HZB.out HUG.out.lt)
  rw [hZ] at HZG HMZ HBZ HGZ
  clear hZ HZB
  go_wp2_with fail
  refine Calls.mono (h14.out _ _ _ HMZ.out HZG.out) ?_
  rintro e w2 ⟨rfl, hb2⟩
  have HB2 := hid (HBZ.out.trans (hb2.mono HBZ.out.size))
  have HM2 := hid (HMZ.out.below hb2)
  have HG2 := hid (HGZ.out.below hb2 HGZ.out.lt)
  clear hb2 c0 c1 c2 c3 HGZ HMZ HBZ HZG
  have c0 : w2.cell? ⟨g, 0, none⟩ = some (.int .i64 4) := HG2.out.cell 0
  have c1 : w2.cell? ⟨g, 1, none⟩ = some (.int .i64 4) := HG2.out.cell 1
  have c2 : w2.cell? ⟨g, 2, none⟩ = some (.slice p 16 c) := HG2.out.cell 2
  have c3 : w2.cell? ⟨g, 3, none⟩ = some (.slice q 16 d) := HG2.out.cell 3
  obtain ⟨Z, hZ⟩ : ∃ Z, Z = w2.alloc (.cells #[Value.int .i64 0, .int .i64 0, .int .i64 1] 48) := ⟨_, rfl⟩
  have HZB : Hid (Below w2.heap.size w2 Z) := by rw [hZ]; exact (Below.refl _ _).alloc (Nat.le_refl _) _
  have HZG : Hid (RowAt encY 3 Z (.slice (some ⟨w2.heap.size, 0, none⟩) 1 1) [(0, 0, 1)]) := by rw [hZ]; exact RowAt.one _ _ _ _ rfl
  have HMZ := hid (HM2.out.below HZB.out)
  have HBZ := hid (HB2.out.trans (HZB.out.mono HB2.out.size))
  rw [hZ] at HZG HMZ HBZ
  clear hZ HZB
  go_wp2_with fail
  refine Calls.mono (h14b.out _ _ _ HMZ.out HZG.out) ?_
  rintro e w3 ⟨rfl, hb3⟩
  have HB3 := hid (HBZ.out.trans (hb3.mono HBZ.out.size))
  clear hb3
  go_wp2
  go_ret
  first
    | exact ⟨rfl, HB3.out⟩
    | exact HB3.out
def fewM (m : Mp) (n : Nat) : Bool := decide (m.ts.length ≤ 1000) && decide (m.os.length ≤ 1000) && decide (n ≤ 40)
set_option maxRecDepth 20000 in
set_option maxHeartbeats 4000000 in
theorem few_any (m : Mp) (v : Value) (p : Option Addr) (n c : Nat) (w : World) (hm : MapAt w v m) : Calls Try.prog 9 #[v, .slice p n c] w fun e w' => Out w (.bool (fewM m n)) e w' := by
  unfold fewM Out
  obtain ⟨p1, c1, q1, d1, rfl, -, -⟩ := hm
  obtain ⟨a, b, ts, os⟩ := m
  simp only
  generalize ts.length = M
  generalize os.length = O
  have hbe : Hid (∀ o, Below w.heap.size w (w.alloc o)) := fun o => (Below.refl _ _).alloc (Nat.le_refl _) _
  by_cases h1 : (M : Int) ≤ 1000
  · by_cases h2 : (O : Int) ≤ 1000
    · by_cases h3 : (n : Int) ≤ 40
      · go_enter Try.func9, Try.ntmps9
        go_wp2
        go_ret
        exact ⟨by simp; omega, hbe.out _⟩
      · have h3' : ((n : Int) ≤ 40) = False := by simp; omega
        go_enter Try.func9, Try.ntmps9
        go_wp2
        go_ret
        exact ⟨by simp; omega, hbe.out _⟩
    · have h3' : ((O : Int) ≤ 1000) = False := by simp; omega
      go_enter Try.func9, Try.ntmps9
      go_wp2
      go_ret
      exact ⟨by simp; omega, hbe.out _⟩
  · have h3' : ((M : Int) ≤ 1000) = False := by simp; omega
    go_enter Try.func9, Try.ntmps9
    go_wp2
    go_ret
    exact ⟨by simp; omega, hbe.out _⟩
end Go.Proofs.Yteijncfnifebjaa
