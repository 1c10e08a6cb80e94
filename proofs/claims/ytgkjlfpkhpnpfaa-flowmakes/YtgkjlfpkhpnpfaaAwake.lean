/- What a program that does nothing does not answer. -/
import Derived.Test.YtgkjlfpkhpnpfaaOpen4
import Derived.Test.YtgkjlfpkhpnpfaaFar
namespace Go.Proofs.Ytgkjlfpkhpnpfaa
open Go.RowKit
theorem ways4 : wyG M4 [] [(0, 0)] 6 (3, 3) = true := by decide +kernel
theorem least4 : (List.range 6).all (fun k => !wyG M4 [] [(0, 0)] k (3, 3)) = true := by decide +kernel
theorem inn4 : inn M4 (3, 3) = true := by decide +kernel
theorem make4 : makeE M4 [(0, 0)] = 0 := by decide +kernel
theorem field4 {f : Cl → Option Nat} (h : Field M4 [] [(0, 0)] f) : farV f (3, 3) = 6 := by
  obtain ⟨k, hk, hf⟩ := h.least (3, 3) 6 inn4 ways4
  have h2 := h.ways _ _ hf
  have hk6 : k = 6 := by
    rcases Nat.lt_or_ge k 6 with hl | hl
    · have := List.all_eq_true.1 least4 k (List.mem_range.2 hl)
      rw [h2] at this
      cases this
    · omega
  unfold farV
  rw [hf, hk6]; rfl
set_option maxHeartbeats 4000000 in
/-- What a program that does nothing does not answer, this one does. -/
theorem awake_any (w : World) : Calls Try.prog 8 #[] w fun e w' => Out w (.bool true) e w' := by
  have h19 : Hid (∀ W, Calls Try.prog 22 #[.string TXT] W fun e w' => ∃ v, e = .returned (.tuple #[v, .int .i64 0]) ∧ MapAt w' v M4 ∧ Below W.heap.size W w') := fun W => read4 TXT rfl idx_text W
  have h10 : Hid (∀ W v t, MapAt W v M4 → CellsAt W t [(0, 0)] → Calls Try.prog 10 #[v, .slice none 0 0, t] W fun e w' => ∃ s f, e = .returned (.tuple #[s, .int .i64 0]) ∧ Below W.heap.size W w' ∧ Field M4 [] [(0, 0)] f ∧ FieldAt w' W.heap.size s M4 [] [(0, 0)] f) := fun W v t h ht => by
    have := make_any M4 v (.slice none 0 0) t [] [(0, 0)] W h ⟨none, 0, rfl, fun h => absurd rfl h⟩ ht (by simp) (by simp)
    refine this.mono ?_
    rintro e w' ⟨s, rfl, hb, -, h0⟩
    rw [make4] at h0 ⊢
    obtain ⟨f, h1, h2⟩ := h0 rfl
    exact ⟨s, f, rfl, hb, h1, h2⟩
  have h16 : Hid (∀ W v f base, Field M4 [] [(0, 0)] f → FieldAt W base v M4 [] [(0, 0)] f → Calls Try.prog 16 #[v, C 3 3] W fun e w' => Out W (.int .i64 6) e w') := fun W v f base hf h => by
    have := far_any M4 v [] [(0, 0)] f base 3 3 W h
    rw [field4 hf] at this
    exact this
  unfold Out at *
  have eT : (Value.string { data := #[46, 46, 46, 46, 10, 46, 46, 46, 46, 10, 46, 46, 46, 46, 10, 46, 46, 46, 46, 10] }) = .string TXT := rfl
  go_enter Try.func8, Try.ntmps8
  go_wp2_with fail
  refine Calls.mono (h19.out w) ?_
  rintro e w1 ⟨v, rfl, hm, hb1⟩
  have HM1 := hid hm
  obtain ⟨p, c, q, d, hv, -, -⟩ := hm
  have hv' : v = .agg #[.int .i64 4, .int .i64 4, .slice p 16 c, .slice q 16 d] := hv
  subst hv'
  obtain ⟨U, hU⟩ : ∃ U, U = w1.alloc (.cells #[Value.int .i64 4, .int .i64 4, .slice p 16 c, .slice q 16 d] 24) := ⟨_, rfl⟩
  obtain ⟨g, hg⟩ : ∃ g, g = w1.heap.size := ⟨_, rfl⟩
  have HUB : Hid (Below w1.heap.size w1 U) := by rw [hU]; exact (Below.refl _ _).alloc (Nat.le_refl _) _
  have HUG : Hid (Blk U g [.int .i64 4, .int .i64 4, .slice p 16 c, .slice q 16 d] 24) := by rw [hU, hg]; exact Blk.new _ _ _
  have HMU := hid (HM1.out.below HUB.out)
  have HBU := hid (hb1.trans (HUB.out.mono hb1.size))
  have HU := hid (fun (_ : Nat) => hU)
  have HG := hid (fun (_ : Nat) => hg)
  clear hU hg hv hb1
  go_upto_region 2 with fail
  rw [← HU.out 0, ← HG.out 0]
  have c0 : U.cell? ⟨g, 0, none⟩ = some (.int .i64 4) := HUG.out.cell 0
  have c1 : U.cell? ⟨g, 1, none⟩ = some (.int .i64 4) := HUG.out.cell 1
  have c2 : U.cell? ⟨g, 2, none⟩ = some (.slice p 16 c) := HUG.out.cell 2
  have c3 : U.cell? ⟨g, 3, none⟩ = some (.slice q 16 d) := HUG.out.cell 3
  clear HU HG
  obtain ⟨Z, hZ⟩ : ∃ Z, Z = U.alloc (.cells #[Value.int .i64 0, .int .i64 0] 37) := ⟨_, rfl⟩
  have HZB : Hid (Below U.heap.size U Z) := by rw [hZ]; exact (Below.refl _ _).alloc (Nat.le_refl _) _
  have HZG : Hid (CellsAt Z (.slice (some ⟨U.heap.size, 0, none⟩) 1 1) [(0, 0)]) := by rw [hZ]; exact hid (OwnC.one (Blk.new _ _ _)).cells
  have HMZ := hid (HMU.out.below HZB.out)
  have HBZ := hid (HBU.out.trans (HZB.out.mono HBU.out.size))
  rw [hZ] at HZG HMZ HBZ
  clear hZ HZB
  go_wp2_with fail
  refine Calls.mono (h10.out _ _ _ HMZ.out HZG.out) ?_
  rintro e w2 ⟨s, f, rfl, hb2, hfi, hfa⟩
  have HB2 := hid (HBZ.out.trans (hb2.mono HBZ.out.size))
  have HFI := hid hfi
  have HFA := hid hfa
  obtain ⟨fb, bf, bn, rfl, -⟩ := hfa
  clear hb2 hfi c0 c1 c2 c3
  go_wp2_with fail
  refine Calls.mono (h16.out w2 _ f _ HFI.out HFA.out) ?_
  rintro e w3 ⟨rfl, hb3⟩
  have HB3 := hid (HB2.out.trans (hb3.mono HB2.out.size))
  clear hb3
  go_wp2
  go_ret
  first
    | exact ⟨rfl, HB3.out⟩
    | exact HB3.out
end Go.Proofs.Ytgkjlfpkhpnpfaa
