/- A text cut into its rows: what the library's Split gives is what a reader of one byte after another meets. -/
import Derived.Lib.Split
import Derived.Lib.SplitLaws
import Derived.Lib.IndexBytes
import Derived.Lib.Strings
namespace Go.Proofs.YthinldcblbgdnaaDoor
/-- Rows, each with its end. -/
def glue (rows : List (List UInt8)) : List UInt8 := rows.flatMap fun r => r ++ [10]
/-- A text as its whole rows and what lies behind the last end. -/
def cutTxt (cur : List UInt8) : List UInt8 → List (List UInt8) × List UInt8
  | [] => ([], cur)
  | c :: l => if c = 10 then (cur :: (cutTxt [] l).1, (cutTxt [] l).2) else cutTxt (cur ++ [c]) l
theorem cutTxt_glue : ∀ (l cur : List UInt8), cur ++ l = glue (cutTxt cur l).1 ++ (cutTxt cur l).2
  | [], cur => by simp [cutTxt, glue]
  | c :: l, cur => by
    by_cases h : c = 10
    · have ih := cutTxt_glue l []
      rw [List.nil_append] at ih
      simp only [cutTxt, if_pos h]
      have e : glue (cur :: (cutTxt [] l).1) = cur ++ [10] ++ glue (cutTxt [] l).1 := rfl
      rw [e, List.append_assoc, ← ih, h]; simp
    · have ih := cutTxt_glue l (cur ++ [c])
      simp only [cutTxt, if_neg h]
      rw [← ih]; simp
theorem cutTxt_clean : ∀ (l cur : List UInt8), 10 ∉ cur → (∀ r ∈ (cutTxt cur l).1, 10 ∉ r) ∧ 10 ∉ (cutTxt cur l).2
  | [], cur, h => by simpa [cutTxt] using h
  | c :: l, cur, h => by
    by_cases hc : c = 10
    · obtain ⟨h1, h2⟩ := cutTxt_clean l [] (by simp)
      simp only [cutTxt, if_pos hc]
      refine ⟨fun r hr => ?_, h2⟩
      rcases List.mem_cons.1 hr with rfl | hr
      · exact h
      · exact h1 r hr
    · simp only [cutTxt, if_neg hc]
      exact cutTxt_clean l (cur ++ [c]) (by simp; exact ⟨h, fun e => hc e.symm⟩)
theorem index_clean {r : List UInt8} (h : 10 ∉ r) : Lib.index r [10] = -1 := by
  rw [Lib.index_one]
  induction r with
  | nil => rfl
  | cons b l ih =>
    simp only [List.mem_cons, not_or] at h
    have hb : (b == 10) = false := by simp; exact fun e => h.1 e.symm
    unfold Lib.indexByte
    rw [hb, ih h.2]; rfl
theorem index_row {r : List UInt8} (h : 10 ∉ r) (l : List UInt8) : Lib.index (r ++ 10 :: l) [10] = r.length := by
  rw [Lib.index_one]
  induction r with
  | nil => rfl
  | cons b t ih =>
    simp only [List.mem_cons, not_or] at h
    have hb : (b == 10) = false := by simp; exact fun e => h.1 e.symm
    rw [List.cons_append]
    unfold Lib.indexByte
    rw [hb, ih h.2]
    have : ((t.length : Int) == -1) = false := by simp
    rw [this]; simp
/-- Rows joined by ends: what Split meets. -/
def joinRows : List (List UInt8) → List UInt8
  | [] => []
  | [r] => r
  | r :: rs => r ++ 10 :: joinRows rs
theorem split_rows : ∀ (rows : List (List UInt8)), rows ≠ [] → (∀ r ∈ rows, 10 ∉ r) → Lib.splitK [10] 0 (Lib.count (joinRows rows) [10]) (joinRows rows) = rows
  | [], h, _ => absurd rfl h
  | [r], _, h => by
    have hr := index_clean (h r (by simp))
    show Lib.splitK [10] 0 (Lib.count r [10]) r = [r]
    rw [Lib.count_miss hr]; rfl
  | r :: q :: rs, _, h => by
    have hr := index_row (h r (by simp)) (joinRows (q :: rs))
    have ih := split_rows (q :: rs) (by simp) (fun x hx => h x (List.mem_cons_of_mem _ hx))
    have e : joinRows (r :: q :: rs) = r ++ 10 :: joinRows (q :: rs) := rfl
    rw [e, Lib.count_hit (by simp) hr]
    have hd : (r ++ 10 :: joinRows (q :: rs)).drop (r.length + ([10] : List UInt8).length) = joinRows (q :: rs) := by
      rw [List.drop_append]; simp
    rw [hd, Nat.add_comm 1, Lib.splitK, hr]
    have hn : (((r.length : Nat) : Int) == -1) = false := by simp
    rw [hn]
    simp only [Int.toNat_natCast, Nat.add_zero, Bool.false_eq_true, if_false]
    rw [hd, ih, List.take_left']
    rfl
theorem glue_join : ∀ (rows : List (List UInt8)), rows ≠ [] → glue rows = joinRows rows ++ [10]
  | [], h => absurd rfl h
  | [r], _ => by simp [glue, joinRows]
  | r :: q :: rs, _ => by
    have ih := glue_join (q :: rs) (by simp)
    have e1 : glue (r :: q :: rs) = r ++ [10] ++ glue (q :: rs) := rfl
    have e2 : joinRows (r :: q :: rs) = r ++ 10 :: joinRows (q :: rs) := rfl
    rw [e1, e2, ih]; simp
theorem suffix_glue (rows : List (List UInt8)) (h : rows ≠ []) : Lib.hasSuffix (glue rows) [10] = true ∧ Lib.trimSuffix (glue rows) [10] = joinRows rows := by
  have h1 : Lib.hasSuffix (glue rows) [10] = true := by
    rw [glue_join rows h]
    unfold Lib.hasSuffix
    rw [List.isSuffixOf_iff_suffix]
    exact List.suffix_append _ _
  refine ⟨h1, ?_⟩
  unfold Lib.trimSuffix
  rw [if_pos h1, glue_join rows h]
  simp
/-- A text that ends with an end is its rows. -/
theorem suffix_cut {l : List UInt8} : Lib.hasSuffix l [10] = true ↔ (cutTxt [] l).2 = [] ∧ (cutTxt [] l).1 ≠ [] := by
  have hg := cutTxt_glue l []
  rw [List.nil_append] at hg
  have hc := cutTxt_clean l [] (by simp)
  generalize (cutTxt [] l).1 = rows at *
  generalize (cutTxt [] l).2 = rest at *
  constructor
  · intro h
    unfold Lib.hasSuffix at h
    rw [List.isSuffixOf_iff_suffix] at h
    obtain ⟨t, ht⟩ := h
    have hrest : rest = [] := by
      rcases List.eq_nil_or_concat rest with h0 | ⟨a, b, h0⟩
      · exact h0
      · have h1 : t ++ [10] = (glue rows ++ a) ++ [b] := by rw [ht, hg, h0]; simp
        have h2 := (List.append_inj' h1 rfl).2
        simp at h2
        exact absurd (by rw [h0, ← h2]; simp) hc.2
    refine ⟨hrest, ?_⟩
    rintro rfl
    rw [hg, hrest] at ht
    simp [glue] at ht
  · rintro ⟨h1, h2⟩
    rw [hg, h1, List.append_nil]
    exact (suffix_glue rows h2).1
/-- A byte more. -/
theorem cutTxt_snoc : ∀ (l cur : List UInt8) (c : UInt8), cutTxt cur (l ++ [c]) = if c = 10 then ((cutTxt cur l).1 ++ [(cutTxt cur l).2], []) else ((cutTxt cur l).1, (cutTxt cur l).2 ++ [c])
  | [], cur, c => by
    by_cases h : c = 10
    · simp [cutTxt, h]
    · simp [cutTxt, h]
  | b :: l, cur, c => by
    rw [List.cons_append]
    by_cases hb : b = 10
    · simp only [cutTxt, if_pos hb, cutTxt_snoc l [] c]
      split <;> simp
    · simp only [cutTxt, if_neg hb, cutTxt_snoc l (cur ++ [b]) c]
/-- What Split gives of a text without its last end: the whole rows. -/
theorem split_cut {l : List UInt8} (h : Lib.hasSuffix l [10] = true) : Lib.splitK [10] 0 (Lib.count (Lib.trimSuffix l [10]) [10]) (Lib.trimSuffix l [10]) = (cutTxt [] l).1 := by
  obtain ⟨h1, h2⟩ := suffix_cut.1 h
  have hg := cutTxt_glue l []
  rw [List.nil_append, h1, List.append_nil] at hg
  have hc := (cutTxt_clean l [] (by simp)).1
  have ht := (suffix_glue _ h2).2
  rw [← hg] at ht
  rw [ht]
  exact split_rows _ h2 hc
/-- The same of the library's text of bytes. -/
theorem splitB_cut {s : ByteArray} (h : Lib.hasSuffix s.data.toList [10] = true) :
    (Lib.splitB ⟨#[10]⟩ 0 (Lib.countB ⟨(Lib.trimSuffix s.data.toList [10]).toArray⟩ ⟨#[10]⟩) ⟨(Lib.trimSuffix s.data.toList [10]).toArray⟩).map (fun r => r.data.toList) = (cutTxt [] s.data.toList).1 := by
  rw [Lib.splitB_data]
  exact split_cut h
section
variable (k : UInt8 → Bool) (t o : UInt8 → Int)
/-- The first row's length. -/
def widRows : List (List UInt8) → Nat
  | [] => 0
  | r :: _ => r.length
def okRow (n : Nat) (r : List UInt8) : Bool := r.length == n && r.all k
def fineRows (rows : List (List UInt8)) : Bool := rows.all (okRow k (widRows rows))
/-- A reader of one byte after another: width, height, place in the row, tiles, ore. -/
def refStep (s : Option (Nat × Nat × Nat × List Int × List Int)) (c : UInt8) : Option (Nat × Nat × Nat × List Int × List Int) :=
  match s with
  | none => none
  | some (W, H, x, ts, os) =>
    if c = 10 then (if x = (if H = 0 then x else W) then some ((if H = 0 then x else W), H + 1, 0, ts, os) else none)
    else if k c then some (W, H, x + 1, ts ++ [t c], os ++ [o c]) else none
def refAt (l : List UInt8) : Option (Nat × Nat × Nat × List Int × List Int) := l.foldl (refStep k t o) (some (0, 0, 0, [], []))
theorem refAt_snoc (l : List UInt8) (c : UInt8) : refAt k t o (l ++ [c]) = refStep k t o (refAt k t o l) c := by
  unfold refAt
  rw [List.foldl_append]; rfl
theorem widRows_snoc (rows : List (List UInt8)) (r : List UInt8) : widRows (rows ++ [r]) = if rows.length = 0 then r.length else widRows rows := by
  cases rows with
  | nil => rfl
  | cons a l => simp [widRows]
theorem refAt_cut : ∀ (n : Nat) (l : List UInt8), l.length = n → refAt k t o l = if fineRows k (cutTxt [] l).1 && (cutTxt [] l).2.all k then some (widRows (cutTxt [] l).1, (cutTxt [] l).1.length, (cutTxt [] l).2.length, (cutTxt [] l).1.flatMap (List.map t) ++ (cutTxt [] l).2.map t, (cutTxt [] l).1.flatMap (List.map o) ++ (cutTxt [] l).2.map o) else none
  | 0, l, h => by
    obtain rfl : l = [] := List.eq_nil_of_length_eq_zero h
    rfl
  | n + 1, l, h => by
    rcases List.eq_nil_or_concat l with rfl | ⟨a, c, rfl⟩
    · simp at h
    · rw [List.concat_eq_append] at h ⊢
      have ih := refAt_cut n a (by simpa using h)
      rw [refAt_snoc, ih, cutTxt_snoc]
      generalize (cutTxt [] a).1 = rows
      generalize (cutTxt [] a).2 = rest
      by_cases hc : c = 10
      · rw [if_pos hc]
        simp only
        have hw := widRows_snoc rows rest
        have e1 : fineRows k (rows ++ [rest]) = (rows.all (okRow k (widRows (rows ++ [rest]))) && okRow k (widRows (rows ++ [rest])) rest) := by
          unfold fineRows; simp
        have e3 : rows.all (okRow k (widRows (rows ++ [rest]))) = fineRows k rows := by
          rw [hw]
          cases rows with
          | nil => rfl
          | cons a l => simp [fineRows]
        rw [e1, e3]
        have e4 : okRow k (widRows (rows ++ [rest])) rest = (decide (rest.length = (if rows.length = 0 then rest.length else widRows rows)) && rest.all k) := by
          rw [hw]; unfold okRow; congr 1
        rw [e4, hw]
        simp only [List.all_nil, Bool.and_true, List.length_append, List.length_cons, List.length_nil, List.flatMap_append, List.flatMap_cons, List.flatMap_nil, List.append_nil, List.map_nil]
        cases fineRows k rows
        · simp [refStep]
        · cases rest.all k
          · simp [refStep]
          · simp only [Bool.and_true, Bool.true_and, if_true, refStep, hc, decide_eq_true_eq]
      · rw [if_neg hc]
        simp only [List.all_append, List.all_cons, List.all_nil, Bool.and_true, List.length_append, List.length_cons, List.length_nil, List.map_append, List.map_cons, List.map_nil]
        cases fineRows k rows
        · simp [refStep]
        · cases rest.all k
          · simp [refStep]
          · cases hk : k c
            · simp [refStep, hc, hk]
            · simp [refStep, hc, hk]
/-- Whether all is well stays decided: a prefix that is refused is refused in the whole. -/
theorem refAt_none (l r : List UInt8) (h : refAt k t o l = none) : refAt k t o (l ++ r) = none := by
  unfold refAt at *
  rw [List.foldl_append, h]
  induction r with
  | nil => rfl
  | cons c r ih => exact ih
end
end Go.Proofs.YthinldcblbgdnaaDoor
