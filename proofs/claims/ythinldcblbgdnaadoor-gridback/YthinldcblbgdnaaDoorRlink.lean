/- What is read of a text, told by a reader of one byte after another. -/
import Derived.Test.YthinldcblbgdnaaDoorRead
import Derived.Test.YthinldcblbgdnaaDoorTxt
namespace Go.Proofs.YthinldcblbgdnaaDoor
open Go.RowKit
def k8 (c : UInt8) : Bool := sgnK c.toNat
def t8 (c : UInt8) : Int := sgnT c.toNat
def o8 (c : UInt8) : Int := sgnO c.toNat
theorem rowOk_list (n : Nat) (r : ByteArray) : rowOk n r = okRow k8 n r.data.toList := by
  unfold rowOk okRow byt
  rw [Lib.size_eq, List.all_map]; rfl
theorem rows_cut {s : ByteArray} (h : ended s = true) : (rowsOf s).map (fun r => r.data.toList) = (cutTxt [] s.data.toList).1 := splitB_cut h
theorem width_list (l : List ByteArray) : (l.getD 0 ByteArray.empty).size = widRows (l.map (fun r => r.data.toList)) := by
  cases l with
  | nil => rfl
  | cons a l => exact Lib.size_eq a
theorem okRows_cut {s : ByteArray} (h : ended s = true) : okRows s = fineRows k8 (cutTxt [] s.data.toList).1 := by
  unfold okRows
  rw [h, Bool.true_and, ← rows_cut h]
  unfold widthOf fineRows
  rw [width_list, List.all_map]
  congr 1
  funext r
  exact rowOk_list _ r
theorem tiles_list (f : Nat → Int) (l : List ByteArray) : (l.flatMap fun r => (byt r).map f) = (l.map (fun r => r.data.toList)).flatMap (List.map fun c => f c.toNat) := by
  induction l with
  | nil => rfl
  | cons a l ih =>
    rw [List.flatMap_cons, List.map_cons, List.flatMap_cons, ih]
    congr 1
    unfold byt
    rw [List.map_map]; rfl
theorem ref_none {s : ByteArray} (hs : s.size ≤ 1000) (h : refAt k8 t8 o8 s.data.toList = none) : readE s = 4 ∧ readM s = ⟨0, 0, [], []⟩ := by
  have hok : okRows s = false := by
    cases he : ended s
    · unfold okRows; rw [he]; rfl
    · rw [okRows_cut he]
      rw [refAt_cut k8 t8 o8 _ _ rfl] at h
      have h1 := (suffix_cut.1 he).1
      rw [h1] at h
      cases hf : fineRows k8 (cutTxt [] s.data.toList).1
      · rfl
      · rw [hf] at h; simp at h
  unfold readE readM
  rw [hok]
  simp; omega
theorem ref_some {s : ByteArray} (hs : s.size ≤ 1000) {W H x : Nat} {ts os : List Int} (h : refAt k8 t8 o8 s.data.toList = some (W, H, x, ts, os)) :
    readE s = (if x = 0 ∧ formed ⟨(W : Int), (H : Int), ts, os⟩ = true then 0 else 4) ∧ readM s = (if x = 0 ∧ formed ⟨(W : Int), (H : Int), ts, os⟩ = true then ⟨(W : Int), (H : Int), ts, os⟩ else ⟨0, 0, [], []⟩) := by
  rw [refAt_cut k8 t8 o8 _ _ rfl] at h
  have hn : ¬ 1000 < s.size := by omega
  cases he : ended s
  · have hok : okRows s = false := by unfold okRows; rw [he]; rfl
    have hx : ¬ (x = 0 ∧ formed ⟨(W : Int), (H : Int), ts, os⟩ = true) := by
      rintro ⟨rfl, hf⟩
      split at h
      · simp only [Option.some.injEq, Prod.mk.injEq] at h
        obtain ⟨h1, h2, h3, -⟩ := h
        have hr : (cutTxt [] s.data.toList).2 = [] := List.eq_nil_of_length_eq_zero h3
        by_cases hrows : (cutTxt [] s.data.toList).1 = []
        · have h4 : (4 : Int) ≤ (H : Int) := (formed_of hf).2.1.1
          rw [hrows] at h2
          simp at h2
          omega
        · have : Lib.hasSuffix s.data.toList [10] = true := suffix_cut.2 ⟨hr, hrows⟩
          unfold ended at he
          rw [this] at he; cases he
      · cases h
    rw [if_neg hx, if_neg hx]
    unfold readE readM
    rw [hok, if_neg hn]
    simp
  · have h1 := (suffix_cut.1 he).1
    rw [h1, ← okRows_cut he] at h
    simp only [List.all_nil, Bool.and_true, List.length_nil, List.map_nil, List.append_nil] at h
    split at h
    · rename_i hok
      simp only [Option.some.injEq, Prod.mk.injEq] at h
      obtain ⟨hW, hH, hx, hts, hos⟩ := h
      have hm : mapOf s = ⟨(W : Int), (H : Int), ts, os⟩ := by
        unfold mapOf
        rw [if_pos hok, ← hW, ← hH, ← hts, ← hos, ← rows_cut he, List.length_map]
        congr 1
        · unfold widthOf; rw [width_list]
        · exact tiles_list sgnT _
        · exact tiles_list sgnO _
      subst hx
      unfold readE readM
      rw [hok, hm, if_neg hn]
      have hs' : s.size ≤ 1000 := hs
      cases hf : formed ⟨(W : Int), (H : Int), ts, os⟩ <;> simp [hs']
    · cases h
end Go.Proofs.YthinldcblbgdnaaDoor
