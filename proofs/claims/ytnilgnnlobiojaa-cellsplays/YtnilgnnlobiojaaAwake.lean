/- awake 8. -/
import Derived.Test.YtnilgnnlobiojaaTake
namespace Go.Proofs.Ytnilgnnlobiojaa
open Go.RowKit
theorem Ix.new (w : World) : Ix (w.alloc (.cells #[.map none, .map none] 55)) w.heap.size w.heap.size (fun _ => []) (fun _ => none) 0 :=
  Or.inl ⟨Blk.new _ _ _, Nat.le_refl _, fun _ => rfl, fun _ => rfl, rfl⟩
set_option maxRecDepth 20000 in
set_option maxHeartbeats 4000000 in
theorem awake_any (w : World) : Calls Try.prog 8 #[] w fun e w' => Out w (.bool true) e w' := by
  obtain ⟨b, hb⟩ : ∃ b, b = w.heap.size := ⟨_, rfl⟩
  obtain ⟨V, hV⟩ : ∃ V, V = w.alloc (.cells #[.map none, .map none] 55) := ⟨_, rfl⟩
  have hi : Ix V b b (fun _ => []) (fun _ => none) 0 := by rw [hV, hb]; exact Ix.new w
  have hbe : Below b w V := by rw [hV, hb]; exact (Below.refl _ _).alloc (Nat.le_refl _) _
  have hsz : b ≤ V.heap.size := by rw [hV, hb]; simp
  have hp := put_any b b 0 _ _ 5 1 0 V hi Ok.empty (by omega) hsz
  have HP := hid hp
  have HBE := hid hbe
  have HSZ := hid hsz
  have HBB := hid (fun (_ : Nat) => hb)
  have hnew := new_any w
  rw [← hV, ← hb] at hnew
  have HNEW := hid hnew
  clear hp hbe hsz hi hb hV hnew
  unfold Out C at *
  rw [← HBB.out 0]
  go_enter Try.func8, Try.ntmps8
  go_upto_region 2 with fail
  refine Calls.mono HNEW.out ?_
  rintro _ W0 ⟨rfl, h0⟩
  have := h0.symm
  subst this
  clear h0
  go_upto_region 5 with fail
  refine Calls.mono HP.out ?_
  rintro _ W1 ⟨rfl, hb1, _, hi1, _⟩
  have hi2 := hi1 rfl
  have hl : insA (offA (fun _ => []) (fun _ => none) 5) 5 (1, 0) (1, 0) = [5] := by decide
  have hw := who_any b b _ _ _ 1 0 W1 hi2 (by rw [hl]; decide)
  have hn := fun W2 (h : Below W1.heap.size W1 W2) => len_any b b _ _ _ W2 (hi2.below h)
  rw [hl] at hw
  have hpe : putE (fun _ => none) 0 5 (1, 0) = 0 := by decide
  have hoe : ((offN (fun _ => none) 5 0 + 1 : Nat) : Int) = 1 := by decide
  rw [hpe]
  simp only [hoe] at hn
  have HW := hid hw
  have HN := hid hn
  have HB1 := hid (HBE.out.trans hb1)
  have HS1 := hid (Nat.le_trans HSZ.out hb1.size)
  clear hw hn hl hi1 hi2 hb1 hpe hoe HP
  unfold C at *
  go_upto_region 6 with fail
  refine Calls.mono HW.out ?_
  rintro _ W2 ⟨p, cap, rfl, ho, hb2⟩
  obtain ⟨sb, so, hps, hcell⟩ := ho.ints.pos 0 (by decide)
  subst hps
  have e0 : W2.cell? ⟨sb, so, none⟩ = some (.int .i64 5) := hcell 0 (by decide)
  have HB2 := hid (HB1.out.trans (hb2.mono HS1.out))
  have hn2 := HN.out W2 hb2
  have HN2 := hid hn2
  clear hcell ho hb2 hn2 HN HW
  simp only [List.length_cons, List.length_nil]
  go_wp2_with (go_at_call 11; refine Calls.mono HN2.out ?_; rintro _ _ ⟨rfl, rfl⟩)
  go_ret
  exact ⟨rfl, HB2.out⟩
end Go.Proofs.Ytnilgnnlobiojaa
