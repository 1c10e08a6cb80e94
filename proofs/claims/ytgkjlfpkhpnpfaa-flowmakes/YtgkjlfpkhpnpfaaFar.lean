/- What a field answers: Far, Next. -/
import Derived.Test.YtgkjlfpkhpnpfaaMake
namespace Go.Proofs.Ytgkjlfpkhpnpfaa
open Go.RowKit
def numV : Option Nat → Int
  | none => -1
  | some n => (n : Int)
def farV (f : Cl → Option Nat) (c : Cl) : Int := numV (f c)
theorem size37 : (Try.prog.info? 37).map (·.size) = some 2 := by kernel_rfl
theorem FMap.look2 {w : World} {b : Nat} {f : Int × Int → Option Value} (h : FMap w b f) (T E : TypeId) (hT : Try.prog.underlying T = some (.map 37 E)) (z : Value) (hz : (zeroValue E).run Try.prog w = .ok z w) (x y : Int) :
    (Instr.lookup T (.map (some b)) (.agg #[.int .i64 x, .int .i64 y]) true).run Try.prog w = .ok (.tuple #[(f (x, y)).getD z, .bool (f (x, y)).isSome]) w := by
  have h1 := h.look T E hT z hz x y true
  rw [if_pos rfl] at h1
  exact h1
/-- A cell was laid into a block of its own. -/
theorem cell_box (w : World) (x y : Int) (W : World) (B : Nat) (hW : W = w.alloc (.cells #[Value.int .i64 x, .int .i64 y] 37)) (hB : B = w.heap.size) :
    (∀ w', Below W.heap.size W w' → w'.cell? ⟨B, 0, none⟩ = some (.int .i64 x) ∧ w'.cell? ⟨B, 1, none⟩ = some (.int .i64 y)) ∧ (∀ w', Below W.heap.size W w' → Below w.heap.size w w') ∧ W.heap.size = B + 1 := by
  have hsz : W.heap.size = B + 1 := by rw [hW, hB]; simp
  have hbe : Below w.heap.size w W := by rw [hW]; exact (Below.refl _ _).alloc (Nat.le_refl _) _
  have b1 : Blk W B [.int .i64 x, .int .i64 y] 37 := by rw [hW, hB]; exact Blk.new _ _ _
  refine ⟨fun w' h => ?_, fun w' h => hbe.trans (h.mono (by omega)), hsz⟩
  have c1 := b1.below h (by omega)
  exact ⟨c1.cell 0, c1.cell 1⟩
set_option maxHeartbeats 4000000 in
theorem far_nil (x y : Int) (w : World) : Calls Try.prog 16 #[.pointer none, C x y] w fun e w' => Out w (.int .i64 (-1)) e w' := by
  unfold C Out
  go_enter Try.func16, Try.ntmps16
  go_upto_region 1 with fail
  obtain ⟨W, hW⟩ : ∃ W, W = w.alloc (.cells #[Value.int .i64 x, .int .i64 y] 37) := ⟨_, rfl⟩
  obtain ⟨B, hB⟩ : ∃ B, B = w.heap.size := ⟨_, rfl⟩
  rw [← hW, ← hB]
  obtain ⟨-, hbe, -⟩ := cell_box w x y W B hW hB
  have HBE := hid (hbe W (Below.refl _ _))
  have HB := hid (fun (_ : Nat) => hB)
  clear hW hB hbe
  go_wp2
  go_ret
  first
    | exact ⟨rfl, HBE.out⟩
    | exact HBE.out
set_option maxHeartbeats 4000000 in
theorem far_any (m : Mp) (v : Value) (bl gs : List Cl) (f : Cl → Option Nat) (base : Nat) (x y : Int) (w : World) (hF : FieldAt w base v m bl gs f) : Calls Try.prog 16 #[v, C x y] w fun e w' => Out w (.int .i64 (farV f (x, y))) e w' := by
  obtain ⟨fb, bf, bn, rfl, -, h1, h2, -⟩ := hF
  have HK := hid h1
  have HM := hid h2
  obtain ⟨RV, hRV⟩ : ∃ RV, RV = farV f (x, y) := ⟨_, rfl⟩
  rw [← hRV]
  have HRV : Hid (RV = farV f (x, y)) := hRV
  clear hRV h1 h2
  unfold C Out
  go_enter Try.func16, Try.ntmps16
  go_upto_region 1 with fail
  obtain ⟨W, hW⟩ : ∃ W, W = w.alloc (.cells #[Value.int .i64 x, .int .i64 y] 37) := ⟨_, rfl⟩
  obtain ⟨B, hB⟩ : ∃ B, B = w.heap.size := ⟨_, rfl⟩
  rw [← hW, ← hB]
  obtain ⟨hc, hbe, -⟩ := cell_box w x y W B hW hB
  obtain ⟨c0, c1⟩ := hc W (Below.refl _ _)
  have HBE := hid hbe
  have hbW := hbe W (Below.refl _ _)
  have hKW := HK.out.below hbW HK.out.lt
  have hMW := HM.out.below hbW HM.out.lt
  have HB := hid (fun (_ : Nat) => hB)
  have k2 : W.cell? ⟨fb, 2, none⟩ = some (.map (some bf)) := hKW.cell 2
  have hlk := FMap.look2 (w := W.drew) (hMW.keep rfl) 54 3 Try.underlying54 (.int .i64 0) (zero3 _) x y
  rw [valF_get, valF_some] at hlk
  clear hW hB hbe hc hKW hbW hMW HK HM
  obtain ⟨fz, hfz⟩ : ∃ fz, fz = f (x, y) := ⟨_, rfl⟩
  rw [← hfz] at hlk
  have hr : Hid (RV = numV fz) := by
    rw [HRV.out, hfz]; exact hid rfl
  clear hfz HRV
  go_upto_region 3 with fail
  go_still (by kernel_rfl)
  cases fz with
  | none =>
    have := hr.out
    simp only [numV] at this
    subst this
    go_wp2
    go_ret
    have HE := HBE.out _ (below_drew (Below.refl _ _))
    rw [HB.out 0]
    first
      | exact ⟨rfl, HE⟩
      | exact HE
  | some n =>
    have := hr.out
    simp only [numV] at this
    subst this
    go_wp2
    go_ret
    have HE := HBE.out _ (below_drew (Below.refl _ _))
    first
      | exact ⟨rfl, HE⟩
      | exact HE
end Go.Proofs.Ytgkjlfpkhpnpfaa
