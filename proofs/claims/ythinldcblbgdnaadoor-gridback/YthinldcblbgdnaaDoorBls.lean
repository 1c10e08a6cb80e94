/- strings.Builder: String 34. -/
import Derived.Test.YthinldcblbgdnaaDoorBld
namespace Go.Proofs.YthinldcblbgdnaaDoor
open Go.RowKit
theorem encU_cells (X : List Int) (hb : ∀ z ∈ X, 0 ≤ z ∧ z < 256) : flatE encU X = Lib.byteCells (X.map fun z => UInt8.ofNat z.toNat) := by
  induction X with
  | nil => rfl
  | cons z X ih =>
    have h1 := hb z (by simp)
    have e : flatE encU (z :: X) = Value.int .u8 z :: flatE encU X := rfl
    rw [e, ih (fun y hy => hb y (List.mem_cons_of_mem _ hy))]
    have e2 : ((UInt8.ofNat z.toNat).toNat : Int) = z := by simp; omega
    simp only [Lib.byteCells, List.map_cons, e2]
set_option maxRecDepth 100000 in
set_option maxHeartbeats 4000000 in
theorem string34 (b : Nat) (X : List Int) (w : World) (h : Bu w b X) (hne : X ≠ []) (hb : ∀ z ∈ X, 0 ≤ z ∧ z < 256) (hl : X.length ≤ 1000000) :
    Calls Tryd.prog 34 #[.pointer (some ⟨b, 0, none⟩)] w fun e w' => e = .returned (.string (strOfNums X)) ∧ Below b w w' := by
  obtain ⟨u, r, cap, hu, hk, ho⟩ := h
  obtain ⟨l, hll⟩ : ∃ l, l = X.map fun z => UInt8.ofNat z.toNat := ⟨_, rfl⟩
  have hlen : l.length = X.length := by rw [hll, List.length_map]
  have h0 : l ≠ [] := by rw [hll]; simpa using hne
  have hown : w.ownsRow (b + 1) 5 1 (.slice r l.length cap) l.length (Lib.byteCells l) := by
    have h1 := ho
    unfold OwnR at h1
    rw [encU_cells X hb, ← hll, ← hlen] at h1
    exact h1
  have hst : strOfNums X = ⟨l.toArray⟩ := by rw [hll]; rfl
  rw [hst]
  rw [← hlen] at hk hl
  have hl0 : l.length ≠ 0 := by simpa using h0
  obtain ⟨g, cap', cur, hv, hbg, hg, hnc, hcm, hcs, htake⟩ : ∃ g cap' cur, (Value.slice r l.length cap) = .slice (some ⟨g, 0, none⟩) l.length cap' ∧ b + 1 ≤ g ∧ w.heap[g]? = some (.cells cur 5 (0, 0)) ∧ l.length ≤ cap' ∧ cap' ≤ maxLen ∧ cur.size = cap' * 1 ∧ cur.toList.take (l.length * 1) = Lib.byteCells l := by
    rcases hown.2 with ⟨_, hz⟩ | ⟨g, cap', cur, hv, r'⟩
    · exact absurd hz hl0
    · exact ⟨g, cap', cur, hv, r'⟩
  simp only [Value.slice.injEq, true_and] at hv
  obtain ⟨rfl, rfl⟩ := hv
  have c1 : w.drew.cell? ⟨b, 1, none⟩ = some (.slice (some ⟨g, 0, none⟩) l.length cap) := by
    have := hk.cell 1
    simpa using this
  have hSD : (Builtin.unsafeSliceData_ #[48] 72 #[.slice (some ⟨g, 0, none⟩) l.length cap]).run Tryd.prog w.drew = .ok (.pointer (some ⟨g, 0, none⟩)) w.drew :=
    Lib.run_unsafeSliceData_row _ _ _ _ _ _ (by omega)
  have hUS : (Builtin.unsafeString_ #[72, 3] 9 #[.pointer (some ⟨g, 0, none⟩), .int .i64 l.length]).run Tryd.prog w.drew = .ok (.string ⟨l.toArray⟩) (w.drew.freeze ⟨g, 0, none⟩ l.length) := by
    refine Lib.run_unsafeString_row w.drew 72 3 9 5 Tryd.underlying72 (by kernel_rfl) g cur.size (by have hg' : w.drew.heap[g]? = some (.cells cur 5 (0, 0)) := hg; simp [World.shape?, hg']) l h0 (by omega) (by unfold maxLen at hcm; omega) ?_
    intro j x hx
    have := hown.cells (g := g) rfl j (.int .u8 x.toNat) (by simp [Lib.byteCells, hx])
    exact this
  clear hown hk ho hst hu hll hlen hne hb hg htake
  have mixed : Tryd.prog.follows Departure.mixedOrders = true := by kernel_rfl
  go_enter Tryd.func34, Tryd.ntmps34
  go_wp2
  go_region_o
  all_goals (go_wp2; go_ret; exact ⟨rfl, Lib.below_freeze (Below.drew (Below.refl b w)) (p := ⟨g, 0, none⟩) (by show b ≤ g; omega) _⟩)
end Go.Proofs.YthinldcblbgdnaaDoor
