/- What every law's row of this seat shares: the table's condition, a world for the witness, and an argument that is an array of bytes. -/
import Derived.Test.YtpgckbjcacagdaaDoorCards
import Derived.Test.YtpgckbjcacagdaaDoorTie
import Derived.Test.YtpgckbjcacagdaaDoorMix
import Derived.ProofKit
import Derived.OpenShut
import Derived.Deep.DeepHandedRow
import Derived.Lib.LaidTab
namespace Go.Proofs.YtpgckbjcacagdaaDoor
open Go.ChangeShapes Go.WideShapes Go.ChangeAt Go.RowKit

theorem own : ownKnob Tryd.prog.godebug = none := by kernel_rfl
theorem laidOut : laidOutB Tryd.prog = true := by kernel_rfl
theorem gTab : Tryd.prog.globalNamed "skirmish/sha.roundWords" = some 0 := by kernel_rfl
theorem gTabType : (Tryd.prog.globals[0]?).map (·.type) = some 44 := by kernel_rfl
theorem cells44 : Tryd.prog.cellsOf 44 = 64 := by kernel_rfl
theorem cells36 : Tryd.prog.cellsOf 36 = 1 := by kernel_rfl
theorem cells26 : Tryd.prog.cellsOf 26 = 32 := by kernel_rfl
theorem cells5 : Tryd.prog.cellsOf 5 = 1 := by kernel_rfl
/-- The table's numbers. -/
def KZ : List Int := KW.map fun k => (k.toNat : Int)
theorem laid_eq : (Rows.laid_skirmish_sha_roundWords : DataW Unit) = Lib.tabData .u32 KZ := by kernel_rfl
theorem tab_of_laid {W : World} (h : laidMetH Tryd.prog [("skirmish/sha.roundWords", Rows.laid_skirmish_sha_roundWords)] W) : Tab W := by
  have hT : Lib.TabIs Tryd.prog W "skirmish/sha.roundWords" .u32 KZ := by
    rw [laid_eq] at h
    exact Lib.tabIs_of_head (rest := []) gTab gTabType Tryd.underlying44 Tryd.underlying36 cells36 cells44 h
  intro i hi
  rw [hT.cell gTab i (by simpa [KZ, KW] using hi)]
  have hk : i < KW.length := hi
  simp [KZ, U, hk]

theorem okWide_array {P : Program} {w : World} {r : Reach} {base : Nat} {t : TypeId} {v : Value} {n : Nat} {e : TypeId} (ht : P.underlying t = some (.array n e)) (h : Value.okWide P w r base t v) : ∃ cs, v = .agg cs ∧ cs.size = P.cellsOf t := by
  simp only [Value.okWide, ht] at h
  obtain ⟨cs, h1, h2, _⟩ := h
  exact ⟨cs, h1, h2⟩
/-- An argument that is an array of bytes. -/
theorem open_bytes {H : Type} {enc : TypeId × Value → H} {W : World} {base : Nat} {v : Value} {d : DataW H} {p : List MemPlace} (hv : Value.okWide Tryd.prog W .any base 26 v) (h : DataW.Trod enc Tryd.prog W 0 (fun _ => true) true 26 v d p) :
    ∃ l : List Byte, l.length = 32 ∧ v = .agg (l.map B8).toArray := by
  obtain ⟨cs, rfl, hsz⟩ := okWide_array Tryd.underlying26 hv
  rw [cells26] at hsz
  obtain ⟨fuel, hf⟩ := h
  obtain ⟨xs, m, rfl, hx, hlen, hn, hel⟩ := DataW.trod_array Tryd.underlying26 hf
  refine ⟨cs.toList.map fun v => BitVec.ofInt 8 (intOf v), by simpa using hsz, ?_⟩
  congr 1
  have hall : ∀ i, i < 32 → ∃ z, cs.toList[i]? = some (.int .u8 z) ∧ 0 ≤ z ∧ z ≤ 255 := by
    intro i hi
    have h1 := hel i hi
    rw [List.getElem?_eq_getElem (by omega)] at h1
    obtain ⟨z, hc, _, hw⟩ := DataW.trod_int Tryd.underlying5 h1
    refine ⟨z, ?_, bounds_u8 hw⟩
    rw [cells5, Nat.mul_one] at hc
    have := congrArg (·[0]?) hc
    simpa [Value.cells] using this
  have hL : cs.toList = (cs.toList.map fun v => BitVec.ofInt 8 (intOf v)).map B8 := by
    apply List.ext_getElem?
    intro i
    by_cases hi : i < 32
    · obtain ⟨z, hz, h0, h255⟩ := hall i hi
      simp only [List.getElem?_map, hz, Option.map_some]
      simp only [intOf, B8, Option.some.injEq, Value.int.injEq, true_and]
      rw [BitVec.toNat_ofInt]; omega
    · rw [List.getElem?_eq_none (by simp; omega), List.getElem?_eq_none (by simp; omega)]
  rw [← hL]
end Go.Proofs.YtpgckbjcacagdaaDoor
