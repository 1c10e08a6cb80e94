/- Shuffle, and the reference's. -/
import Derived.Test.YtlnbhgpijdjpmaaRow
import Derived.Deep.DeepCutAuto
namespace Go.Proofs.Ytlnbhgpijdjpmaa
open Go.RowKit
/-- The members at i and k exchanged. -/
def swp (l : List Int) (i k : Nat) : List Int := (l.set i (l.getD k 0)).set k (l.getD i 0)
theorem swp_length (l : List Int) (i k : Nat) : (swp l i k).length = l.length := by simp [swp]
/-- The list from place i down, and the seed behind it. -/
def shuf : Nat → Nat → List Int → List Int × Nat
  | 0, s, l => (l, s)
  | i + 1, s, l => shuf i (bS (i + 2) s) (swp l (i + 1) (bN (i + 2) s))
theorem shuf_length : ∀ i s l, (shuf i s l).1.length = l.length
  | 0, _, _ => rfl
  | i + 1, s, l => by rw [shuf, shuf_length i, swp_length]
theorem shuf_lt : ∀ i s l, s < 18446744073709551616 → (shuf i s l).2 < 18446744073709551616
  | 0, _, _, h => h
  | i + 1, s, l, h => by rw [shuf]; exact shuf_lt i _ _ (bS_lt h)
theorem RowB.swap {w : World} {g : Nat} {l : List Int} (h : RowB w g l) (i k : Nat) : RowB ((w.setCell ⟨g, i, none⟩ (.int .i64 (l.getD k 0))).setCell ⟨g, k, none⟩ (.int .i64 (l.getD i 0))) g (swp l i k) := (h.set i _).set k _
/-- What a shuffle answers. -/
def OutF (w : World) (b M T : Nat) (R : List Int) (e : Ending) (w' : World) : Prop := e = .returned (.slice (some ⟨w.heap.size, 0, none⟩) M M) ∧ RowB w' w.heap.size R ∧ Src w' b T ∧ Only b w w'
theorem Only.setNew {b g i : Nat} {w w' : World} (h : Only b w w') (hg : w.heap.size ≤ g) (v : Value) : Only b w (w'.setCell ⟨g, i, none⟩ v) :=
  ⟨h.os, h.tape, h.output, by simpa using h.size, fun k hk hl => (Below.heap_setCell _ _ _ _ (by show k ≠ g; omega)).trans (h.block k hk hl)⟩
theorem Only.drew {b : Nat} {w w' : World} (h : Only b w w') : Only b w w'.drew := ⟨h.os, h.tape, h.output, h.size, h.block⟩
theorem Src.setNew {b g i s : Nat} {w : World} (h : Src w b s) (hg : b ≠ g) (v : Value) : Src (w.setCell ⟨g, i, none⟩ v) b s := Blk.set_ne h ⟨g, i, none⟩ hg v
set_option maxHeartbeats 2000000 in
theorem shuffle_any (b s : Nat) (hs : s < 18446744073709551616) (zs : List Int) (p : Option Addr) (M cap : Nat) (w : World) (hS : Src w b s) (hM : M = zs.length) (hI : IntsAt .i64 w (.slice p M cap) zs) (hl : M ≤ 1000) : Calls Try.prog 17 #[P b, .slice p M cap] w fun e w' => OutF w b M (shuf (M - 1) s zs).2 (shuf (M - 1) s zs).1 e w' := by
  have HI := hid (fun W (h : Below w.heap.size w W) => hI.below h)
  have HM := hid (fun (_ : Nat) => hM)
  have HS := hid hS
  have HBL := hid hS.lt
  have h15 : Hid (∀ (W : World) (a n : Nat), Src W b a → a < 18446744073709551616 → n < 18446744073709551616 → Calls Try.prog 15 #[P b, .int .u64 (n : Int)] W fun e w' => OutS W b (bS n a) (.int .u64 (bN n a : Int)) e w') := fun W a n h ha hn => below_any b a n ha hn W h
  obtain ⟨R, hR⟩ : ∃ R, shuf (M - 1) s zs = R := ⟨_, rfl⟩
  rw [hR]
  have HR0 := hid (fun (_ : Nat) => hR)
  clear hI hM hS hR
  unfold P at *
  have hM1 : (M : Int) ≤ 1000 := by omega
  go_enter Try.func17, Try.ntmps17
  go_wp2_with (first
    | (with_reducible refine wpL_make M hl (by go_simp) (by go_simp) ?_; intro w1 cur hcur hcl hb1; have HCUR := hid hcur; have HCL := hid (fun (_ : Nat) => hcl); have HB1 := hid hb1; clear hcur hcl hb1)
    | (with_reducible refine wpL_copy (w0 := w) M w.heap.size zs (.slice p M cap) cur (HM.out 0) (by go_simp) (by go_simp) (HI.out _ HB1.out) HCUR.out (HCL.out 0) HB1.out (Nat.le_refl _) ?_; intro w2 hr hb2; have HR := hid hr; have HB2 := hid hb2; clear hr hb2))
  clear HCUR HCL HB1 HI
  obtain ⟨g, hg⟩ : ∃ g, w.heap.size = g := ⟨_, rfl⟩
  have HG := hid (fun (_ : Nat) => hg)
  rw [hg] at HR ⊢
  have HBN : Hid (b ≠ g) := by show b ≠ g; rw [← hg]; exact Nat.ne_of_lt HBL.out
  clear hg
  have start : Hid (∃ (j : Int) (t : Nat) (l : List Int), Value.int .i64 ((M : Int) - 1) = .int .i64 j ∧ -1 ≤ j ∧ j < M ∧ t < 18446744073709551616 ∧ Hid (l.length = M) ∧ Hid (RowB w2 g l) ∧ Hid (Src w2 b t) ∧ Hid (Only b w w2) ∧ Hid (∀ k : Nat, k = j.toNat → shuf k t l = R)) :=
    ⟨(M : Int) - 1, s, zs, rfl, by omega, by omega, hs, (HM.out 0).symm, HR, Blk.below HS.out HB2.out HBL.out, Below.only HB2.out b, fun k hk => by rw [hk, show ((M : Int) - 1).toNat = M - 1 by omega]; exact HR0.out 0⟩
  go_loopw [6] (fun iv wr => ∃ (j : Int) (t : Nat) (l : List Int), iv = .int .i64 j ∧ -1 ≤ j ∧ j < M ∧ t < 18446744073709551616 ∧ Hid (l.length = M) ∧ Hid (RowB wr g l) ∧ Hid (Src wr b t) ∧ Hid (Only b w wr) ∧ Hid (∀ k : Nat, k = j.toNat → shuf k t l = R)) (fun iv _ => (intOf iv).toNat)
  case atStart => exact start.out
  case round =>
    clear start HR HB2 HS HR0
    obtain ⟨j, t, l, rfl, hj1, hj2, ht, HL, HR, HS, HO, HF⟩ := hrel
    by_cases hj : 0 < j
    · obtain ⟨i, rfl⟩ : ∃ i : Nat, j = (i : Int) := ⟨j.toNat, by omega⟩
      obtain ⟨n, hn⟩ : ∃ n : Nat, (i : Int) + 1 = (n : Int) := ⟨i + 1, by omega⟩
      have hnl : n < 18446744073709551616 := by omega
      go_wp2_with fail
      refine Calls.mono (h15.out _ t n HS.out ht hnl) ?_
      rintro e w5 ⟨rfl, hs5, ho5⟩
      have HS5 := hid hs5
      have HO5 := hid (HO.out.trans ho5)
      have HR5 : Hid (RowB w5 g l) := HR.out.keep (ho5.block g HBN.out.symm HR.out.lt)
      have hx : bN n t < n := bN_lt (by omega)
      have hu : bS n t < 18446744073709551616 := bS_lt ht
      have HF5 : Hid (∀ k : Nat, k = ((i : Int) - 1).toNat → shuf k (bS n t) (swp l i (bN n t)) = R) := fun k hk => by
        have := HF.out (k + 1) (by omega)
        rw [shuf] at this
        rw [← this]
        obtain rfl : n = k + 2 := by omega
        obtain rfl : i = k + 1 := by omega
        rfl
      generalize bN n t = x at *
      generalize bS n t = u at *
      clear hs5 ho5 HS HO HR HF h15
      have f1 : (0 : Int) ≤ (i : Int) := by omega
      have f2 : (0 : Int) ≤ (x : Int) := by omega
      have f3 : (x : Int) < (M : Int) := by omega
      have c1 := HR5.out.cell i (by have := HL.out; omega)
      have c2 := HR5.out.cell x (by have := HL.out; omega)
      have z1 := HR5.out.frozen i
      have z2 := HR5.out.frozen x
      have HR6 := hid (HR5.out.swap i x)
      obtain ⟨d, c3⟩ : ∃ d, (w5.setCell ⟨g, i, none⟩ (.int .i64 (l.getD x 0))).cell? ⟨g, x, none⟩ = some (.int .i64 d) := ⟨_, (HR5.out.set i (l.getD x 0)).cell x (by have := HL.out; rw [List.length_set]; omega)⟩
      have z3 := (HR5.out.set i (l.getD x 0)).frozen x
      have HL6 : Hid ((swp l i x).length = M) := by show _ = M; rw [swp_length]; exact HL.out
      generalize swp l i x = l6 at *
      generalize l.getD i 0 = a at *
      generalize l.getD x 0 = c at *
      have HO6 := hid ((HO5.out.setNew (i := i) (Nat.le_of_eq (HG.out 0)) (.int .i64 c)).setNew (i := x) (Nat.le_of_eq (HG.out 0)) (.int .i64 a))
      have HS6 := hid ((HS5.out.setNew (i := i) HBN.out (.int .i64 c)).setNew (i := x) HBN.out (.int .i64 a))
      go_upto_region 9 with fail
      go_region
      go_wp2
      go_roundw
      case rel => exact ⟨(i : Int) - 1, u, l6, rfl, by omega, by omega, hu, HL6, HR6, HS6, HO6.out.drew, HF5⟩
      case measure => simp [intOf]; omega
    · have hj0 : (0 < j) = False := by simp; omega
      have hz : j.toNat = 0 := by omega
      have hf := HF.out 0 hz.symm
      have HF' := hid (fun (_ : Nat) => hf)
      clear hf HF
      go_wp2
      go_ret
      have := HF'.out 0
      rw [shuf] at this
      subst this
      rw [← HG.out 0] at HR ⊢
      exact ⟨rfl, HR.out, HS.out, HO.out⟩
/-- append(nil, x...), as the walk meets it. -/
theorem wpL_append {ops : Array Oper} {rest : List Oper} {Q : Exit → Act → World → Prop} {a : Act} {w : World} {dd : Option Tmp} {s x : Operand} {tt : TypeId} {pos : String} {af : Array Edge} (M : Nat) (zs : List Int) (sv : Value) (hM : M = zs.length) (hl : M ≤ 1000)
    (hs : a.eval s = .slice none 0 0) (hx : a.eval x = sv) (hI : IntsAt .i64 w sv zs)
    (h : ∀ p cap w', IntsAt .i64 w' (.slice p M cap) zs → (0 < M → ∃ g, p = some ⟨g, 0, none⟩ ∧ w.heap.size ≤ g ∧ RowB w' g zs) → Below w.heap.size w w' → wpList Try.prog ops Q rest (a.put dd (.slice p M cap)) w') :
    wpList Try.prog ops Q ({ dst := dd, op := .call { callee := .builtin .append, args := #[s, x], argTypes := #[35, 35] }, type := tt, pos := pos, after := af, guard := .none } :: rest) a w := by
  obtain ⟨i, hi, hz0, hz1, hz2⟩ := info_parts info3
  have hbelow : ∀ w', w.grownBy w' (Value.slice none 0 0).ownBlock → Below w.heap.size w w' := fun w' hg => ⟨hg.os, hg.tape, hg.output, hg.size, fun k hk => hg.block k hk (by simp [Value.ownBlock])⟩
  have ho : w.ownsRow w.heap.size 3 1 (.slice none 0 0) 0 [] := ⟨rfl, Or.inl ⟨rfl, rfl⟩⟩
  obtain ⟨p, cap, rfl, hc, hpn, hcell⟩ := hI
  by_cases hzs : zs = []
  · subst hzs
    simp at hM
    subst hM
    rcases p with _ | ad
    · have hc0 := hpn rfl
      subst hc0
      refine wpList_append_own_none rfl s x 35 rfl w.heap.size 3 i 1 Try.underlying35 hi _ 0 [] hs ho hx ?_
      exact h none 0 w (ints_nil _ _) (by omega) (Below.refl _ _)
    · refine wpList_append_own w rfl s x 35 rfl w.heap.size 3 i (.int .i64 0) 1 8 Try.underlying35 hi hz0 hz1 hz2 rfl (by omega) _ 0 [] hs ho ad 0 cap [] hx (by simp) (by simp) (by simp) (by simp only [maxLen]; omega) (by omega) (Nat.le_refl _) ?_
      intro v' w' ho' hg hnil
      obtain ⟨_, ⟨rfl, _⟩ | ⟨g, cap', cur, rfl, _⟩⟩ := ho'
      · exact h _ _ w' (ints_nil _ _) (by omega) (hbelow w' hg)
      · exact h _ _ w' ⟨_, _, rfl, by simp, (fun h => by cases h), fun h => absurd rfl h⟩ (by omega) (hbelow w' hg)
  · obtain ⟨sb, so, rfl, hcl⟩ := hcell hzs
    refine wpList_append_own w rfl s x 35 rfl w.heap.size 3 i (.int .i64 0) 1 8 Try.underlying35 hi hz0 hz1 hz2 rfl (by omega) _ 0 [] hs ho ⟨sb, so, .none⟩ zs.length cap (zs.map I) hx (by simp) ?_ ?_ (by simp only [maxLen]; omega) (by omega) (Nat.le_refl _) ?_
    · intro j u hu
      have hj : j < zs.length := by have := (List.getElem?_eq_some_iff.1 hu).1; simpa using this
      rw [Addr.add_mid, hcl j hj, ← hu]
      simp [hj, I]
    · intro v hv
      obtain ⟨z, _, rfl⟩ := List.mem_map.1 hv
      rfl
    · intro v' w' ho' hg hnil
      have hpos : 0 < zs.length := List.length_pos_iff.2 hzs
      obtain ⟨_, ⟨_, h0⟩ | ⟨g, cap', cur, rfl, hg2, hh, hcc, _, _, ht⟩⟩ := ho'
      · omega
      · rw [Nat.zero_add, ← hM]
        have hrow : RowB w' g zs := ⟨cur, hh, by simpa using ht⟩
        refine h _ _ w' ⟨_, _, by rw [hM], by omega, (fun h => by cases h), fun _ => ⟨g, 0, rfl, fun j hj => ?_⟩⟩ (fun _ => ⟨g, rfl, hg2, hrow⟩) (hbelow w' hg)
        rw [Nat.zero_add]; exact hrow.cell j hj
theorem swp_count {l : List Int} {i k : Nat} (hi : i < l.length) (hk : k < l.length) (z : Int) : (swp l i k).count z = l.count z := by
  unfold swp
  have e1 : l.getD i 0 = l[i] := by simp [hi]
  have e2 : l.getD k 0 = l[k] := by simp [hk]
  rw [e1, e2, List.count_set (by simpa using hk), List.count_set hi]
  have e3 : (l.set i l[k])[k]'(by simpa using hk) = l[k] := by
    rw [List.getElem_set]; split <;> rfl
  rw [e3]
  have h1 : (if (l[i] == z) = true then 1 else 0) ≤ l.count z := by
    split
    · rename_i h
      have : l[i] = z := by simpa using h
      exact List.count_pos_iff.2 (this ▸ List.getElem_mem _)
    · exact Nat.zero_le _
  omega
theorem shuf_count (z : Int) : ∀ i s l, i < l.length → (shuf i s l).1.count z = l.count z
  | 0, _, _, _ => rfl
  | i + 1, s, l, h => by
    have hb : bN (i + 2) s < i + 2 := bN_lt (by omega)
    rw [shuf, shuf_count z i _ _ (by rw [swp_length]; omega), swp_count (by omega) (by omega)]
/-- How often z is among the first k. -/
def cnt (l : List Int) (z : Int) (k : Nat) : Nat := (l.take k).count z
theorem cnt_le (l : List Int) (z : Int) (k : Nat) : cnt l z k ≤ k := Nat.le_trans List.count_le_length (by rw [List.length_take]; exact Nat.min_le_left _ _)
theorem cnt_succ {l : List Int} {z : Int} {k : Nat} (h : k < l.length) : cnt l z (k + 1) = cnt l z k + if l.getD k 0 = z then 1 else 0 := by
  unfold cnt
  rw [List.take_succ_eq_append_getElem h, List.count_append, show l.getD k 0 = l[k] by simp [h]]
  by_cases e : l[k] = z
  · rw [if_pos e, e]; simp
  · rw [if_neg e]; simp [e]
theorem cnt_all {l : List Int} {z : Int} {k : Nat} (h : l.length ≤ k) : cnt l z k = l.count z := by unfold cnt; rw [List.take_of_length_le h]
end Go.Proofs.Ytlnbhgpijdjpmaa
