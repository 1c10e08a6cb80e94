/- The set of some cells: setOf. -/
import Derived.Test.YtgkjlfpkhpnpfaaShut
import Derived.Test.YtgkjlfpkhpnpfaaGway
namespace Go.Proofs.Ytgkjlfpkhpnpfaa
open Go.RowKit
def setF (gs : List Cl) (k : Nat) : Cl → Option Value := fun c => if (gs.take k).contains c then some (.agg #[]) else none
theorem setF_next {gs : List Cl} {k : Nat} (hk : k < gs.length) : putF (setF gs k) (gs.getD k (0, 0)) (.agg #[]) = setF gs (k + 1) := by
  funext c
  unfold putF setF
  have e : gs.take (k + 1) = gs.take k ++ [gs.getD k (0, 0)] := by
    rw [List.take_add_one, List.getD_eq_getElem?_getD, List.getElem?_eq_getElem hk]; rfl
  rw [e]
  generalize gs.getD k (0, 0) = x
  by_cases h : c = x <;> simp [h]
set_option maxHeartbeats 4000000 in
theorem setOf_any (u : Value) (bl : List Cl) (w : World) (hb : CellsAt w u bl) (hN : bl.length ≤ 1000) : Calls Try.prog 24 #[u] w fun e w' => OutF w (setF bl bl.length) e w' := by
  obtain ⟨r, rc, rfl, hcell⟩ := hb
  have HB : Hid (∀ W, Below w.heap.size w W → ∀ i, i < bl.length → ∃ rb ro, r = some ⟨rb, ro, none⟩ ∧ W.cell? ⟨rb, ro + i * 2, none⟩ = some (.int .i64 (bl.getD i (0, 0)).1) ∧ W.cell? ⟨rb, ro + i * 2 + 1, none⟩ = some (.int .i64 (bl.getD i (0, 0)).2)) := fun W h i hi => by
    obtain ⟨rb, ro, e, h2⟩ := hcell (by intro h0; subst h0; simp at hi)
    obtain ⟨h3, h4⟩ := h2 i hi
    exact ⟨rb, ro, e, by rw [h.cell (p := ⟨rb, ro + i * 2, none⟩) (lt_of_cell h3)]; exact h3, by rw [h.cell (p := ⟨rb, ro + i * 2 + 1, none⟩) (lt_of_cell h4)]; exact h4⟩
  have HM3 : Hid (∀ k, k < bl.length → putF (setF bl k) (bl.getD k (0, 0)) (.agg #[]) = setF bl (k + 1)) := fun k h => setF_next h
  have HM4 : Hid ((fun _ => none) = setF bl 0) := by funext c; simp [setF]
  obtain ⟨F, hF⟩ : ∃ F, F = setF bl := ⟨_, rfl⟩
  rw [← hF] at HM3 HM4 ⊢
  clear hF hcell
  unfold OutF
  obtain ⟨N, hNe⟩ : ∃ N, N = bl.length := ⟨_, rfl⟩
  rw [← hNe] at HB HM3 hN ⊢
  obtain ⟨bf, hbf⟩ : ∃ bf : Nat → Cl, bf = fun i => bl.getD i (0, 0) := ⟨_, rfl⟩
  have HBF := hid (fun i => congrFun hbf i)
  simp only [← HBF.out] at HB HM3
  clear hNe hbf HBF
  have hmm := @run_makeMap Try.prog
  go_enter Try.func24, Try.ntmps24
  go_upto_region 3 with fail
  obtain ⟨W, hW⟩ : ∃ W, W = w.alloc (.map #[] 0) := ⟨_, rfl⟩
  obtain ⟨B, hBe⟩ : ∃ B, B = w.heap.size := ⟨_, rfl⟩
  rw [← hW, ← hBe]
  have hsz : W.heap.size = B + 1 := by rw [hW, hBe]; simp
  have HBE : Hid (∀ w', Below B W w' → Below B w w') := by
    intro w' h
    have h1 : Below w.heap.size w W := by rw [hW]; exact (Below.refl _ _).alloc (Nat.le_refl _) _
    rw [← hBe] at h1
    exact h1.trans h
  have HF0 : Hid (FMap W B (F 0)) := by
    have := FMap.new w
    rw [← hW, HM4.out, ← hBe] at this
    exact this
  have HB0 := hid (Below.refl B W)
  rw [← hBe] at HB
  have HBe := hid (fun (_ : Nat) => hBe)
  clear hW hBe HM4 hmm
  go_loopw [9] (fun iv wr => ∃ k : Nat, k ≤ N ∧ iv = .int .i64 (k : Int) ∧ Hid (Below B W wr) ∧ Hid (FMap wr B (F k))) (fun iv _ => N - (intOf iv).toNat)
  case atStart => exact ⟨0, by omega, rfl, HB0, HF0⟩
  case round =>
    clear HB0 HF0
    obtain ⟨k, hk, rfl, HB1, HF1⟩ := hrel
    by_cases hl : k < N
    · have hl' : (k : Int) < (N : Int) := by omega
      obtain ⟨rb, ro, rfl, d0, d1⟩ := HB.out wr (HBE.out wr HB1.out) k hl
      have HM5 := hid (HM3.out k hl)
      obtain ⟨x, hx⟩ : ∃ x, x = (bf k).1 := ⟨_, rfl⟩
      obtain ⟨y, hy⟩ : ∃ y, y = (bf k).2 := ⟨_, rfl⟩
      rw [← hx] at d0
      rw [← hy] at d1
      rw [show bf k = (x, y) from Prod.ext hx.symm hy.symm] at HM5
      clear hx hy
      obtain ⟨V, hV⟩ : ∃ V, V = wr.alloc (.cells #[Value.int .i64 x, .int .i64 y] 37) := ⟨_, rfl⟩
      obtain ⟨g, hg⟩ : ∃ g, g = wr.heap.size := ⟨_, rfl⟩
      have HVB : Hid (Below g wr V) := by rw [hV, hg]; exact (Below.refl _ _).alloc (Nat.le_refl _) _
      have HVG : Hid (Blk V g [.int .i64 x, .int .i64 y] 37) := by rw [hV, hg]; exact Blk.new _ _ _
      have hgB : B + 1 ≤ g := by have := HB1.out.size; omega
      have HBV := hid (HB1.out.trans (HVB.out.mono (by omega)))
      have HFV := hid (HF1.out.below HVB.out (by omega))
      go_upto_region 5 with fail
      rw [← hV, ← hg]
      have g0 : V.cell? ⟨g, 0, none⟩ = some (.int .i64 x) := HVG.out.cell 0
      have g1 : V.cell? ⟨g, 1, none⟩ = some (.int .i64 y) := HVG.out.cell 1
      clear hV hg HVB HB1 HF1 d0 d1
      go_wp2_with (at_mapUpdate; (with_reducible refine wpL_upd 70 Try.underlying51 B (F k) x y (.agg #[]) ?_ ?_ ?_ HFV.out ?_); (rfl); (rfl); (rfl); (intro w2 hf2 ht2); (rw [HM5.out] at hf2); (have HB2 := hid (HBV.out.trans (ht2.below (Nat.le_refl _))); have HF2 := hid hf2; clear hf2 ht2))
      go_roundw
      case rel => exact ⟨k + 1, by omega, by simp, HB2, HF2⟩
      case measure => simp [intOf]; omega
    · obtain rfl : k = N := by omega
      have hl' : ((k : Int) < (k : Int)) = False := by simp
      clear HB HM3 hl hk
      go_wp2
      go_ret
      rw [← HBe.out 0]
      exact ⟨B, rfl, by omega, HF1.out, HBE.out _ HB1.out⟩
end Go.Proofs.Ytgkjlfpkhpnpfaa
