/- What a field answers: Next. -/
import Derived.Test.YtgkjlfpkhpnpfaaFar
import Derived.Test.YtgkjlfpkhpnpfaaFollow
namespace Go.Proofs.Ytgkjlfpkhpnpfaa
open Go.RowKit
theorem zero37 (w : World) : (zeroValue 37).run Try.prog w = .ok (.agg #[.int .i64 0, .int .i64 0]) w := by kernel_rfl
set_option maxHeartbeats 4000000 in
theorem next_nil (x y : Int) (w : World) : Calls Try.prog 14 #[.pointer none, C x y] w fun e w' => Out w (.tuple #[C 0 0, .bool false]) e w' := by
  unfold C Out
  go_enter Try.func14, Try.ntmps14
  go_upto_region 1 with fail
  obtain ⟨W0, hW0⟩ : ∃ W0, W0 = w.alloc (.cells #[Value.int .i64 x, .int .i64 y] 37) := ⟨_, rfl⟩
  obtain ⟨W, hW⟩ : ∃ W, W = W0.alloc (.cells #[Value.int .i64 0, .int .i64 0] 37) := ⟨_, rfl⟩
  obtain ⟨B, hB⟩ : ∃ B, B = w.heap.size := ⟨_, rfl⟩
  have hsz : W0.heap.size = B + 1 := by rw [hW0, hB]; simp
  have HR : Hid (Blk W (B + 1) [.int .i64 0, .int .i64 0] 37) := by rw [hW]; exact Blk.new' _ _ _ _ (by omega)
  have HBE : Hid (Below B w W) := by rw [hW, hW0, hB]; exact ((Below.refl _ _).alloc (Nat.le_refl _) _).alloc (by simp) _
  rw [← hW0, ← hW, ← hB]
  have r0 : W.cell? ⟨B + 1, 0, none⟩ = some (.int .i64 0) := HR.out.cell 0
  have r1 : W.cell? ⟨B + 1, 1, none⟩ = some (.int .i64 0) := HR.out.cell 1
  have f0 := HR.out.frozen 0
  have f1 := HR.out.frozen 1
  have HB := hid (fun (_ : Nat) => hB)
  clear hW hW0 hB hsz
  go_wp2
  have hT := turn_two W (B + 1) (.int .i64 0) (.int .i64 0)
  have z1 : Blk ((W.setCell ⟨B + 1, 0, none⟩ (.int .i64 0)).setCell ⟨B + 1, 1, none⟩ (.int .i64 0)) (B + 1) [(.int .i64 0), (.int .i64 0)] 37 := (HR.out.set 0 _).set 1 _
  exact bodyPost_ret (results_cell_tmp Try.results14 rfl rfl z1 Try.underlying37 rfl size37) rfl ⟨rfl, by rw [← HB.out 0]; exact HBE.out.trans (hT.below (by omega))⟩
set_option maxHeartbeats 4000000 in
theorem next_any (m : Mp) (v : Value) (bl gs : List Cl) (f : Cl → Option Nat) (base : Nat) (x y : Int) (w : World) (hF : FieldAt w base v m bl gs f) :
    Calls Try.prog 14 #[v, C x y] w fun e w' => Out w (.tuple #[C ((nextV m bl gs f (x, y)).getD (0, 0)).1 ((nextV m bl gs f (x, y)).getD (0, 0)).2, .bool (nextV m bl gs f (x, y)).isSome]) e w' := by
  obtain ⟨fb, bf, bn, rfl, -, h1, -, h2⟩ := hF
  have HK := hid h1
  have HM := hid h2
  obtain ⟨z, hz⟩ : ∃ z, z = nextV m bl gs f (x, y) := ⟨_, rfl⟩
  obtain ⟨N, hN⟩ : ∃ N, N = fun c => (nextV m bl gs f c).map cv := ⟨_, rfl⟩
  have hNz : N (x, y) = z.map cv := by rw [hN, hz]
  rw [← hz]
  rw [← hN] at HM
  have hlv : (N (x, y)).getD (.agg #[.int .i64 0, .int .i64 0]) = .agg #[.int .i64 (z.getD (0, 0)).1, .int .i64 (z.getD (0, 0)).2] := by rw [hNz]; cases z <;> rfl
  have hls : (N (x, y)).isSome = z.isSome := by rw [hNz]; cases z <;> rfl
  obtain ⟨n1, hn1⟩ : ∃ n, n = (z.getD (0, 0)).1 := ⟨_, rfl⟩
  obtain ⟨n2, hn2⟩ : ∃ n, n = (z.getD (0, 0)).2 := ⟨_, rfl⟩
  obtain ⟨s, hs⟩ : ∃ s, s = z.isSome := ⟨_, rfl⟩
  rw [← hn1, ← hn2, ← hs]
  rw [← hn1, ← hn2] at hlv
  rw [← hs] at hls
  clear hNz hz hN h1 h2 hn1 hn2 hs
  unfold C Out
  go_enter Try.func14, Try.ntmps14
  go_upto_region 1 with fail
  obtain ⟨W0, hW0⟩ : ∃ W0, W0 = w.alloc (.cells #[Value.int .i64 x, .int .i64 y] 37) := ⟨_, rfl⟩
  obtain ⟨W, hW⟩ : ∃ W, W = W0.alloc (.cells #[Value.int .i64 0, .int .i64 0] 37) := ⟨_, rfl⟩
  obtain ⟨B, hB⟩ : ∃ B, B = w.heap.size := ⟨_, rfl⟩
  have hsz : W0.heap.size = B + 1 := by rw [hW0, hB]; simp
  have HR : Hid (Blk W (B + 1) [.int .i64 0, .int .i64 0] 37) := by rw [hW]; exact Blk.new' _ _ _ _ (by omega)
  have hbe : Below B w W := by rw [hW, hW0, hB]; exact ((Below.refl _ _).alloc (Nat.le_refl _) _).alloc (by simp) _
  have HC : Hid (Blk W B [.int .i64 x, .int .i64 y] 37) := by rw [hW, hW0, hB]; exact (Blk.new _ _ _).alloc _
  rw [← hW0, ← hW, ← hB]
  have HKW : Hid (Blk W fb [.int .i64 m.W, .int .i64 m.H, .map (some bf), .map (some bn)] 59) := HK.out.below hbe (by rw [hB]; exact HK.out.lt)
  have HMW : Hid (FMap W bn N) := HM.out.below hbe (by rw [hB]; exact HM.out.lt)
  have HBE := hid hbe
  have HB := hid (fun (_ : Nat) => hB)
  have hWB : B + 2 ≤ W.heap.size := by have := HR.out.lt; omega
  clear hW hW0 hB hsz hbe HK HM
  go_upto_region 3 with fail
  have k3 : ∀ q : Nx W, q.w.cell? ⟨fb, 3, none⟩ = some (.map (some bn)) := fun q => (HKW.out.below q.h HKW.out.lt).cell 3
  have c0 : ∀ q : Nx W, q.w.cell? ⟨B, 0, none⟩ = some (.int .i64 x) := fun q => (HC.out.below q.h HC.out.lt).cell 0
  have c1 : ∀ q : Nx W, q.w.cell? ⟨B, 1, none⟩ = some (.int .i64 y) := fun q => (HC.out.below q.h HC.out.lt).cell 1
  have hlk : ∀ q : Nx W, (Instr.lookup 56 (.map (some bn)) (.agg #[.int .i64 x, .int .i64 y]) true).run Try.prog q.w = .ok (.tuple #[.agg #[.int .i64 n1, .int .i64 n2], .bool s]) q.w := fun q => by
    have h := FMap.look2 (w := q.w) (HMW.out.below q.h HMW.out.lt) 56 37 Try.underlying56 (.agg #[.int .i64 0, .int .i64 0]) (zero37 _) x y
    rw [hlv, hls] at h
    exact h
  refine wp_region_calm (S := fun w' => ∃ z : Nx W, w' = z.w) [(0, false), (1, false), (2, false), (3, false), (4, false), (5, false), (6, false), (7, false), (8, false), (9, true), (10, true), (11, true)] (by kernel_rfl) (by kernel_rfl) rfl (by kernel_rfl) ⟨⟨W.drew, below_drew (Below.refl _ _)⟩, rfl⟩ ?_
  repeat (refine plan_take rfl (fun K hK => ?_); go_simp; refine ⟨_, fun _ => rfl, hK _ ?_⟩; clear hK K)
  refine plan_turn rfl (fun K hK => ?_)
  go_simp
  obtain ⟨V, hV⟩ : ∃ V, V = (W.alloc (.cells #[Value.int .i64 0, .int .i64 0] 37)).drew := ⟨_, rfl⟩
  rw [← hV]
  have HBV : Hid (Below W.heap.size W V) := by rw [hV]; exact below_drew ((Below.refl _ _).alloc (Nat.le_refl _) _)
  have HG : Hid (Blk V W.heap.size [.int .i64 0, .int .i64 0] 37) := by rw [hV]; exact Blk.new W _ _
  clear hV
  refine hK _ _ ⟨⟨V, HBV.out⟩, rfl⟩ ?_
  clear hK K
  have g0 : V.cell? ⟨W.heap.size, 0, none⟩ = some (.int .i64 0) := HG.out.cell 0
  have g1 : V.cell? ⟨W.heap.size, 1, none⟩ = some (.int .i64 0) := HG.out.cell 1
  have f0 := HG.out.frozen 0
  have f1 := HG.out.frozen 1
  refine plan_turn rfl (fun K hK => ?_)
  go_simp
  obtain ⟨U, hU⟩ : ∃ U, U = (V.setCell ⟨W.heap.size, 0, none⟩ (.int .i64 n1)).setCell ⟨W.heap.size, 1, none⟩ (.int .i64 n2) := ⟨_, rfl⟩
  rw [← hU]
  have hTU : Turn W.heap.size V U := by rw [hU]; exact turn_two _ _ _ _
  have HBU : Hid (Below W.heap.size W U) := HBV.out.trans (hTU.below (Nat.le_refl _))
  have HGU : Hid (Blk U W.heap.size [.int .i64 n1, .int .i64 n2] 37) := by rw [hU]; exact (HG.out.set 0 _).set 1 _
  clear hU hTU g0 g1 f0 f1 HG HBV k3 c0 c1 hlk
  refine hK _ _ ⟨⟨U, HBU.out⟩, rfl⟩ ?_
  clear hK K
  refine plan_turn rfl (fun K hK => ?_)
  go_simp
  refine hK _ _ ⟨⟨U, HBU.out⟩, rfl⟩ ?_
  clear hK K
  refine plan_done ⟨rfl, ?_⟩
  have HRU : Hid (Blk U (B + 1) [.int .i64 0, .int .i64 0] 37) := HR.out.below HBU.out HR.out.lt
  have g0 : U.cell? ⟨W.heap.size, 0, none⟩ = some (.int .i64 n1) := HGU.out.cell 0
  have g1 : U.cell? ⟨W.heap.size, 1, none⟩ = some (.int .i64 n2) := HGU.out.cell 1
  have r0 : U.cell? ⟨B + 1, 0, none⟩ = some (.int .i64 0) := HRU.out.cell 0
  have r1 : U.cell? ⟨B + 1, 1, none⟩ = some (.int .i64 0) := HRU.out.cell 1
  have f0 := HRU.out.frozen 0
  have f1 := HRU.out.frozen 1
  have HBB : Hid (Below B w U) := HBE.out.trans (HBU.out.mono (by omega))
  go_wp2
  have hT := turn_two U (B + 1) (.int .i64 n1) (.int .i64 n2)
  have z1 : Blk ((U.setCell ⟨B + 1, 0, none⟩ (.int .i64 n1)).setCell ⟨B + 1, 1, none⟩ (.int .i64 n2)) (B + 1) [(.int .i64 n1), (.int .i64 n2)] 37 := (HRU.out.set 0 _).set 1 _
  exact bodyPost_ret (results_cell_tmp Try.results14 rfl rfl z1 Try.underlying37 rfl size37) rfl ⟨rfl, by rw [← HB.out 0]; exact HBB.out.trans (hT.below (by omega))⟩
end Go.Proofs.Ytgkjlfpkhpnpfaa
