/- What is told is read as it was, and what is read is told by the text it was read from (pure). -/
import Derived.Test.YthinldcblbgdnaaDoorRlink
import Derived.Test.YthinldcblbgdnaaDoorTxw
namespace Go.Proofs.YthinldcblbgdnaaDoor
open Go.RowKit
def u8 (z : Int) : UInt8 := UInt8.ofNat z.toNat
theorem u8_nat {z : Int} (h : 0 ≤ z ∧ z < 256) : ((u8 z).toNat : Int) = z := by
  unfold u8
  rw [UInt8.toNat_ofNat']
  omega
theorem u8_of (c : UInt8) : u8 (c.toNat : Int) = c := by
  unfold u8
  apply UInt8.toNat_inj.1
  rw [UInt8.toNat_ofNat']
  have := c.toNat_lt
  simp only [Int.toNat_natCast]
  omega
theorem k8_cases {c : UInt8} (h : k8 c = true) : c.toNat = 46 ∨ c.toNat = 35 ∨ c.toNat = 36 ∨ (49 ≤ c.toNat ∧ c.toNat ≤ 57) := by
  unfold k8 sgnK at h
  simp only [Bool.or_eq_true, Bool.and_eq_true, beq_iff_eq, decide_eq_true_eq] at h
  omega
theorem char_sign {c : UInt8} (h : k8 c = true) : sgnB (t8 c) (o8 c) = (c.toNat : Int) ∧ okSign (o8 c) = true := by
  have hc := k8_cases h
  unfold t8 o8 sgnT sgnO okSign sgnB
  generalize c.toNat = n at *
  rcases hc with rfl | rfl | rfl | ⟨h1, h2⟩
  · decide
  · decide
  · decide
  · rcases (by omega : n = 49 ∨ n = 50 ∨ n = 51 ∨ n = 52 ∨ n = 53 ∨ n = 54 ∨ n = 55 ∨ n = 56 ∨ n = 57) with rfl | rfl | rfl | rfl | rfl | rfl | rfl | rfl | rfl <;> decide
theorem sign_char {t o : Int} (h : isTile t o = true) (ho : okSign o = true) : k8 (u8 (sgnB t o)) = true ∧ t8 (u8 (sgnB t o)) = t ∧ o8 (u8 (sgnB t o)) = o := by
  have h1 : ((t = 0 ∨ t = 1) ∧ o = 0) ∨ (t = 2 ∧ 0 ≤ o ∧ o ≤ 1000) := by
    unfold isTile at h
    simp only [Bool.or_eq_true, Bool.and_eq_true, beq_iff_eq, decide_eq_true_eq] at h
    omega
  have h2 : o % 10 = 0 ∧ o ≤ 90 := by simpa [okSign] using ho
  have hb := u8_nat (sgB_byte h1)
  have hz : (sgnB t o = 46 ∧ t = 0 ∧ o = 0) ∨ (sgnB t o = 35 ∧ t = 1 ∧ o = 0) ∨ (sgnB t o = 36 ∧ t = 2 ∧ o = 0) ∨ (sgnB t o = 48 + o / 10 ∧ t = 2 ∧ 10 ≤ o) := by
    unfold sgnB
    rcases h1 with ⟨rfl | rfl, rfl⟩ | ⟨rfl, h3, h4⟩
    · left; decide
    · right; left; decide
    · right; right
      rw [if_neg (by omega)]
      by_cases h0 : 0 < o
      · rw [if_pos h0]; right; omega
      · rw [if_neg h0]; left
        exact ⟨rfl, rfl, by omega⟩
  unfold k8 t8 o8 sgnK sgnT sgnO
  generalize (u8 (sgnB t o)).toNat = n at *
  rcases hz with ⟨hz, rfl, rfl⟩ | ⟨hz, rfl, rfl⟩ | ⟨hz, rfl, rfl⟩ | ⟨hz, rfl, h5⟩
  · obtain rfl : n = 46 := by omega
    decide
  · obtain rfl : n = 35 := by omega
    decide
  · obtain rfl : n = 36 := by omega
    decide
  · have hn : 49 ≤ n ∧ n ≤ 57 := by omega
    rw [if_neg (by omega : ¬ n = 46), if_neg (by omega : ¬ n = 35), if_neg (by omega : ¬ n = 36), if_pos hn, if_pos hn]
    refine ⟨?_, rfl, by omega⟩
    simp only [Bool.or_eq_true, Bool.and_eq_true, beq_iff_eq, decide_eq_true_eq]
    omega
theorem sgRow_eq (m : Mp) (i : Nat) : ∀ x, sgRow m i x = (List.range x).map fun j => sgAt m (i + j)
  | 0 => rfl
  | x + 1 => by rw [sgRow, sgRow_eq m i x, List.range_succ, List.map_append]; rfl
/-- A row's bytes. -/
def mrow (m : Mp) (K y : Nat) : List UInt8 := (List.range K).map fun x => u8 (sgAt m (y * K + x))
theorem mrow_get (m : Mp) (K y x : Nat) (h : x < (mrow m K y).length) : (mrow m K y)[x] = u8 (sgAt m (y * K + x)) := by simp [mrow]
theorem mrow_eq (m : Mp) (K y : Nat) : (sgRow m (y * K) K).map u8 = mrow m K y := by
  rw [sgRow_eq, List.map_map]; rfl
theorem glue_append (a b : List (List UInt8)) : glue (a ++ b) = glue a ++ glue b := by simp [glue]
theorem txt_glue (m : Mp) (K : Nat) (hK : m.W.toNat = K) (h0 : 0 < K) : ∀ y, (txtTo m (y * K)).map u8 = glue ((List.range y).map (mrow m K))
  | 0 => by rw [Nat.zero_mul]; rfl
  | y + 1 => by
    rw [txt_row m K y hK h0, List.map_append, List.map_append, txt_glue m K hK h0 y, mrow_eq, List.range_succ, List.map_append, glue_append, List.append_assoc, show List.map u8 [10] = [10] by decide]
    simp [glue]
theorem cutTxt_row : ∀ (r cur l : List UInt8), 10 ∉ r → cutTxt cur (r ++ 10 :: l) = ((cur ++ r) :: (cutTxt [] l).1, (cutTxt [] l).2)
  | [], cur, l, _ => by simp [cutTxt]
  | c :: r, cur, l, h => by
    simp only [List.mem_cons, not_or] at h
    have hc : ¬ c = 10 := fun e => h.1 e.symm
    rw [List.cons_append, cutTxt, if_neg hc, cutTxt_row r (cur ++ [c]) l h.2]
    simp
theorem cutTxt_rows : ∀ (rows : List (List UInt8)), (∀ r ∈ rows, 10 ∉ r) → cutTxt [] (glue rows) = (rows, [])
  | [], _ => rfl
  | r :: rows, h => by
    have e : glue (r :: rows) = r ++ 10 :: glue rows := by simp [glue]
    rw [e, cutTxt_row r [] _ (h r (by simp)), cutTxt_rows rows (fun x hx => h x (List.mem_cons_of_mem _ hx))]
    rfl
theorem flat_len (f : UInt8 → Int) (K : Nat) : ∀ (rows : List (List UInt8)), (∀ r ∈ rows, r.length = K) → (rows.flatMap (List.map f)).length = rows.length * K
  | [], _ => by simp
  | r :: rows, h => by
    rw [List.flatMap_cons, List.length_append, List.length_map, h r (by simp), flat_len f K rows (fun x hx => h x (List.mem_cons_of_mem _ hx)), List.length_cons, Nat.add_mul]
    omega
theorem flat_get (f : UInt8 → Int) (K : Nat) : ∀ (rows : List (List UInt8)), (∀ r ∈ rows, r.length = K) → ∀ y x, y < rows.length → x < K → (rows.flatMap (List.map f)).getD (y * K + x) 0 = f ((rows.getD y []).getD x 0)
  | [], _, y, _, hy, _ => by simp at hy
  | r :: rows, h, y, x, hy, hx => by
    have hr := h r (by simp)
    cases y with
    | zero =>
      rw [List.flatMap_cons, Nat.zero_mul, Nat.zero_add]
      simp only [List.getD]
      rw [List.getElem?_append_left (by rw [List.length_map]; omega), List.getElem?_map]
      simp [show x < r.length by omega]
    | succ y =>
      rw [List.flatMap_cons]
      have ih := flat_get f K rows (fun x hx => h x (List.mem_cons_of_mem _ hx)) y x (by simpa using hy) hx
      simp only [List.getD] at ih ⊢
      have e : (y + 1) * K + x - (r.map f).length = y * K + x := by rw [List.length_map, hr, Nat.add_mul]; omega
      rw [List.getElem?_append_right (by rw [List.length_map, hr, Nat.add_mul]; omega), e, ih]
      simp
theorem flat_ext (f : UInt8 → Int) (K : Nat) (rows : List (List UInt8)) (ts : List Int) (h : ∀ r ∈ rows, r.length = K) (hl : ts.length = rows.length * K) (hK : 0 < K) (hg : ∀ y x, y < rows.length → x < K → f ((rows.getD y []).getD x 0) = ts.getD (y * K + x) 0) : rows.flatMap (List.map f) = ts := by
  have h1 := flat_len f K rows h
  apply List.ext_getElem
  · rw [h1, hl]
  · intro i hi1 hi2
    have hy : i / K < rows.length := Nat.div_lt_of_lt_mul (by rw [Nat.mul_comm]; omega)
    have hx : i % K < K := Nat.mod_lt _ hK
    have e : i / K * K + i % K = i := by rw [Nat.mul_comm]; exact Nat.div_add_mod i K
    have h2 := flat_get f K rows h (i / K) (i % K) hy hx
    have h3 := hg (i / K) (i % K) hy hx
    rw [e] at h2 h3
    rw [← h2] at h3
    simp only [List.getD, List.getElem?_eq_getElem hi1, List.getElem?_eq_getElem hi2, Option.getD_some] at h3
    exact h3
theorem okTo_all {m : Mp} : ∀ n, (∀ i, i < n → okSign (m.os.getD i 0) = true) → okTo m n = true
  | 0, _ => rfl
  | n + 1, h => by rw [okTo, okTo_all n (fun i hi => h i (by omega)), h n (by omega)]; rfl
theorem okTo_at {m : Mp} : ∀ n, okTo m n = true → ∀ i, i < n → okSign (m.os.getD i 0) = true
  | 0, _, i, hi => by omega
  | n + 1, h, i, hi => by
    rw [okTo, Bool.and_eq_true] at h
    rcases Nat.lt_or_ge i n with h1 | h1
    · exact okTo_at n h.1 i h1
    · obtain rfl : i = n := by omega
      exact h.2
theorem clean_k8 {r : List UInt8} (h : r.all k8 = true) : 10 ∉ r := by
  intro hm
  have := List.all_eq_true.1 h _ hm
  exact absurd this (by decide)
/-- What is told is read as it was. -/
theorem told_read {m : Mp} (h : told m = true) : readE (textS m) = 0 ∧ readM (textS m) = m := by
  have hS : textS m = strOfNums (txtTo m m.ts.length) := by unfold textS; rw [if_pos h]
  unfold told at h
  rw [Bool.and_eq_true] at h
  obtain ⟨hf, hok⟩ := h
  obtain ⟨hw, hh, hts, hos, -⟩ := formed_of hf
  have hpb := prod_bound hw hh
  obtain ⟨K, hK⟩ : ∃ K, m.W.toNat = K := ⟨_, rfl⟩
  obtain ⟨H, hH⟩ : ∃ H, m.H.toNat = H := ⟨_, rfl⟩
  have hKW : m.W = (K : Int) := by omega
  have hHH : m.H = (H : Int) := by omega
  have hLK : m.ts.length = H * K := by
    have : (m.ts.length : Int) = (H : Int) * (K : Int) := by rw [hts, hKW, hHH, Int.mul_comm]
    exact_mod_cast this
  have hOK : m.os.length = H * K := by
    have : (m.os.length : Int) = (H : Int) * (K : Int) := by rw [hos, hKW, hHH, Int.mul_comm]
    exact_mod_cast this
  have hK0 : 0 < K := by omega
  have hsz : (textS m).size ≤ 1000 := by
    rw [hS, strOfNums_size]
    have := txtTo_len m m.ts.length
    omega
  have hbytes : (textS m).data.toList = glue ((List.range H).map (mrow m K)) := by
    rw [hS, strOfNums_data, hLK]
    exact txt_glue m K hK hK0 H
  have hat : ∀ y x, y < H → x < K → k8 (u8 (sgAt m (y * K + x))) = true ∧ t8 (u8 (sgAt m (y * K + x))) = m.ts.getD (y * K + x) 0 ∧ o8 (u8 (sgAt m (y * K + x))) = m.os.getD (y * K + x) 0 := by
    intro y x hy hx
    have hi : y * K + x < m.ts.length := by
      rw [hLK]
      have := Nat.mul_le_mul_right K (show y + 1 ≤ H from hy)
      rw [Nat.add_mul] at this; omega
    exact sign_char (tile_at hf hi) (okTo_at _ hok _ hi)
  have hrl : ∀ r ∈ (List.range H).map (mrow m K), r.length = K := by
    intro r hr
    obtain ⟨y, _, rfl⟩ := List.mem_map.1 hr
    simp [mrow]
  have hrk : ∀ r ∈ (List.range H).map (mrow m K), r.all k8 = true := by
    intro r hr
    obtain ⟨y, hy, rfl⟩ := List.mem_map.1 hr
    rw [List.all_eq_true]
    intro c hc
    obtain ⟨x, hx, rfl⟩ := List.mem_map.1 hc
    exact (hat y x (List.mem_range.1 hy) (List.mem_range.1 hx)).1
  have hge : ∀ y x, y < H → x < K → ((((List.range H).map (mrow m K)).getD y []).getD x 0) = u8 (sgAt m (y * K + x)) := by
    intro y x hy hx
    simp [List.getD, hy, mrow, hx]
  have hcut := cutTxt_rows ((List.range H).map (mrow m K)) (fun r hr => clean_k8 (hrk r hr))
  have hT : ((List.range H).map (mrow m K)).flatMap (List.map t8) = m.ts := flat_ext t8 K _ _ hrl (by simp [hLK]) hK0 (fun y x hy hx => by
    have hy' : y < H := by simpa using hy
    rw [hge y x hy' hx]; exact (hat y x hy' hx).2.1)
  have hO : ((List.range H).map (mrow m K)).flatMap (List.map o8) = m.os := flat_ext o8 K _ _ hrl (by simp [hOK]) hK0 (fun y x hy hx => by
    have hy' : y < H := by simpa using hy
    rw [hge y x hy' hx]; exact (hat y x hy' hx).2.2)
  have hwid : widRows ((List.range H).map (mrow m K)) = K := by
    obtain ⟨h', rfl⟩ : ∃ h', H = h' + 1 := ⟨H - 1, by omega⟩
    rw [List.range_succ_eq_map]
    simp [widRows, mrow]
  have hfine : fineRows k8 ((List.range H).map (mrow m K)) = true := by
    unfold fineRows
    rw [hwid, List.all_eq_true]
    intro r hr
    unfold okRow
    rw [Bool.and_eq_true]
    exact ⟨by simpa using hrl r hr, hrk r hr⟩
  have href : refAt k8 t8 o8 (textS m).data.toList = some (K, H, 0, m.ts, m.os) := by
    rw [refAt_cut k8 t8 o8 _ _ rfl, hbytes, hcut]
    simp only [hfine, hwid, hT, hO, List.all_nil, Bool.and_self, if_true, List.length_map, List.length_range, List.length_nil, List.map_nil, List.append_nil]
  obtain ⟨h1, h2⟩ := ref_some hsz href
  have hm : (⟨(K : Int), (H : Int), m.ts, m.os⟩ : Mp) = m := by rw [← hKW, ← hHH]
  rw [hm, if_pos ⟨rfl, hf⟩] at h1 h2
  exact ⟨h1, h2⟩
/-- What is read is told by the text it was read from. -/
theorem read_told {s : ByteArray} (h : readE s = 0) : formed (readM s) = true ∧ textE (readM s) = 0 ∧ textS (readM s) = s := by
  have hs : s.size ≤ 1000 := by
    unfold readE at h
    split at h
    · omega
    · omega
  cases href : refAt k8 t8 o8 s.data.toList with
  | none => have := (ref_none hs href).1; omega
  | some q =>
    obtain ⟨W, H, x, ts, os⟩ := q
    obtain ⟨h1, h2⟩ := ref_some hs href
    rw [h1] at h
    split at h
    · rename_i hx
      rw [if_pos hx] at h2
      obtain ⟨rfl, hf⟩ := hx
      rw [h2]
      clear h1 h2 h
      rw [refAt_cut k8 t8 o8 _ _ rfl] at href
      have hglue := cutTxt_glue s.data.toList []
      rw [List.nil_append] at hglue
      generalize (cutTxt [] s.data.toList).1 = rows at *
      generalize (cutTxt [] s.data.toList).2 = rest at *
      split at href
      · rename_i hfine
        rw [Bool.and_eq_true] at hfine
        simp only [Option.some.injEq, Prod.mk.injEq] at href
        obtain ⟨e1, e2, e3, e4, e5⟩ := href
        obtain rfl : rest = [] := List.eq_nil_of_length_eq_zero e3
        simp only [List.map_nil, List.append_nil] at e4 e5 hglue
        subst e1 e2 e4 e5
        obtain ⟨hw, hh, -, -, -⟩ := formed_of hf
        simp only at hw hh
        obtain ⟨K, hK⟩ : ∃ K, widRows rows = K := ⟨_, rfl⟩
        rw [hK] at hf hw ⊢
        have hrows : ∀ r ∈ rows, r.length = K ∧ r.all k8 = true := by
          intro r hr
          have := List.all_eq_true.1 hfine.1 r hr
          unfold okRow at this
          rw [Bool.and_eq_true, hK] at this
          exact ⟨by simpa using this.1, this.2⟩
        have hrl : ∀ r ∈ rows, r.length = K := fun r hr => (hrows r hr).1
        have hK0 : 0 < K := by omega
        have hk : ∀ y x, y < rows.length → x < K → k8 ((rows.getD y []).getD x 0) = true := by
          intro y x hy hx
          have hm : rows.getD y [] ∈ rows := by rw [List.getD, List.getElem?_eq_getElem hy]; exact List.getElem_mem _
          have hr := hrows _ hm
          generalize rows.getD y [] = r at *
          have hm2 : r.getD x 0 ∈ r := by rw [List.getD, List.getElem?_eq_getElem (by omega)]; exact List.getElem_mem _
          exact List.all_eq_true.1 hr.2 _ hm2
        have hts := flat_len t8 K rows hrl
        have hdiv : ∀ i, i < rows.length * K → i / K < rows.length ∧ i % K < K ∧ i / K * K + i % K = i := fun i hi =>
          ⟨Nat.div_lt_of_lt_mul (by rw [Nat.mul_comm]; exact hi), Nat.mod_lt _ hK0, by rw [Nat.mul_comm]; exact Nat.div_add_mod i K⟩
        have htold : told ⟨(K : Int), (rows.length : Int), rows.flatMap (List.map t8), rows.flatMap (List.map o8)⟩ = true := by
          unfold told
          rw [hf, Bool.true_and]
          refine okTo_all _ (fun i hi => ?_)
          simp only at hi ⊢
          rw [hts] at hi
          obtain ⟨hy, hx, e⟩ := hdiv i hi
          have := flat_get o8 K rows hrl (i / K) (i % K) hy hx
          rw [e] at this
          rw [this]
          exact (char_sign (hk _ _ hy hx)).2
        refine ⟨hf, by unfold textE; rw [if_pos htold], ?_⟩
        unfold textS
        rw [if_pos htold]
        have hrw : (List.range rows.length).map (mrow ⟨(K : Int), (rows.length : Int), rows.flatMap (List.map t8), rows.flatMap (List.map o8)⟩ K) = rows := by
          apply List.ext_getElem
          · simp
          · intro y hy1 hy2
            rw [List.getElem_map, List.getElem_range]
            have hry : rows.getD y [] = rows[y] := by simp [List.getD, hy2]
            apply List.ext_getElem
            · simp [mrow, hrl _ (List.getElem_mem hy2)]
            · intro x hx1 hx2
              have hx : x < K := by simpa [mrow] using hx1
              rw [mrow_get]
              unfold sgAt
              simp only
              rw [flat_get t8 K rows hrl y x hy2 hx, flat_get o8 K rows hrl y x hy2 hx, (char_sign (hk y x hy2 hx)).1, u8_of, hry]
              simp [List.getD, hx2]
        have hb : (strOfNums (txtTo ⟨(K : Int), (rows.length : Int), rows.flatMap (List.map t8), rows.flatMap (List.map o8)⟩ (rows.flatMap (List.map t8)).length)).data.toList = s.data.toList := by
          rw [strOfNums_data, hts]
          have := txt_glue ⟨(K : Int), (rows.length : Int), rows.flatMap (List.map t8), rows.flatMap (List.map o8)⟩ K (by simp) hK0 rows.length
          rw [hrw] at this
          rw [hglue, ← this]
          rfl
        exact ByteArray.ext (Array.toList_inj.1 hb)
      · cases href
    · omega
theorem read_bad {s : ByteArray} (h : readE s ≠ 0) : formed (readM s) = false := by
  unfold readE at h
  unfold readM
  split at h
  · rw [if_neg (by omega)]; rfl
  · split at h
    · omega
    · rename_i h1
      rw [if_neg (fun e => h1 e.2)]; rfl
end Go.Proofs.YthinldcblbgdnaaDoor
