/- The reference's Take 21. -/
import Derived.Test.YtnilgnnlobiojaaRput
namespace Go.Proofs.Ytnilgnnlobiojaa
open Go.RowKit
/-- Elements, or none, laid behind the call's own row; where they lie there is a place. -/
theorem wpL_appendR0 {α : Type} {enc : α → List Value} {T : TypeId} {k : Nat} (hl : Lay enc k) {ops : Array Oper} {rest : List Oper} {Q : Exit → Act → World → Prop} {a : Act} {w : World} {dd : Option Tmp} {s x : Operand} {tt : TypeId} {pos : String} {af : Array Edge} {S : TypeId} {z : Value} {by_ : Nat}
    (hS : Try.prog.underlying S = some (.slice T)) (hi : (Try.prog.info? T).map (fun i => (i.zero, i.size, i.bytes)) = some (some z, k, by_)) (hz : z.cells.size = k) (hby : by_ ≤ 1000) (base : Nat) (v : Value) (ad : Addr) (cap : Nat) (xs : List α)
    (hs : a.eval s = v) (hx : a.eval x = .slice (some ad) 0 cap) (ho : OwnR enc T k w base v xs) (hsz : xs.length ≤ 1000000) (hbase : base ≤ w.heap.size)
    (h : ∀ p c w', OwnR enc T k w' base (.slice p xs.length c) xs → Gro w v w' (.slice p xs.length c) → wpList Try.prog ops Q rest (a.put dd (.slice p xs.length c)) w') :
    wpList Try.prog ops Q ({ dst := dd, op := .call { callee := .builtin .append, args := #[s, x], argTypes := #[S, S] }, type := tt, pos := pos, after := af, guard := .none } :: rest) a w := by
  obtain ⟨i, hi, hz0, hz1, hz2⟩ := info_parts hi
  have hprod : xs.length * by_ ≤ 1000000 * 1000 := Nat.mul_le_mul hsz hby
  refine wpList_append_own_at w rfl s x S rfl base T i z k by_ hS hi hz0 hz1 hz2 hz hl.pos v xs.length (flatE enc xs) hs ho ad 0 cap [] hx (by simp) ?_ (by simp) (by simp only [maxLen, Nat.add_zero]; omega) (by rw [Nat.add_zero]; omega) hbase ?_
  · intro j u hu; simp at hu
  · intro v' w' ho' hg hnil hat
    have ho'' : OwnR enc T k w' base v' xs := by unfold OwnR; rw [List.append_nil, Nat.add_zero] at ho'; exact ho'
    obtain ⟨p', cap', rfl⟩ := ho''.form
    refine h p' cap' w' ho'' ⟨hg.os, hg.tape, hg.output, hg.size, fun b hb hn => hg.block b hb (fun he => hn he.symm), ?_⟩
    rcases hat with hat | hat
    · exact Or.inl hat
    · exact Or.inr (fun b hb => by rw [hat] at hb; cases hb; exact Nat.le_refl _)
theorem wpL_appendRa {α : Type} {enc : α → List Value} {T : TypeId} {k : Nat} (hl : Lay enc k) {ops : Array Oper} {rest : List Oper} {Q : Exit → Act → World → Prop} {a : Act} {w : World} {dd : Option Tmp} {s x : Operand} {tt : TypeId} {pos : String} {af : Array Edge} {S : TypeId} {z : Value} {by_ : Nat}
    (hS : Try.prog.underlying S = some (.slice T)) (hi : (Try.prog.info? T).map (fun i => (i.zero, i.size, i.bytes)) = some (some z, k, by_)) (hz : z.cells.size = k) (hby : by_ ≤ 1000) (base : Nat) (v : Value) (ad : Addr) (m cap : Nat) (xs ys : List α) (N : Nat) (hm : m = ys.length) (hN : xs.length + ys.length = N)
    (hs : a.eval s = v) (hx : a.eval x = .slice (some ad) m cap) (ho : OwnR enc T k w base v xs) (hb : RowAt enc k w (.slice (some ad) m cap) ys) (hsz : N ≤ 1000000) (hbase : base ≤ w.heap.size)
    (h : ∀ p c w', OwnR enc T k w' base (.slice p N c) (xs ++ ys) → Gro w v w' (.slice p N c) → wpList Try.prog ops Q rest (a.put dd (.slice p N c)) w') :
    wpList Try.prog ops Q ({ dst := dd, op := .call { callee := .builtin .append, args := #[s, x], argTypes := #[S, S] }, type := tt, pos := pos, after := af, guard := .none } :: rest) a w := by
  subst hm
  subst hN
  by_cases hy : ys = []
  · subst hy
    refine wpL_appendR0 hl hS hi hz hby base v ad cap xs hs hx ho (by simpa using hsz) hbase ?_
    intro p c w' h1 h2
    have h3 := h p c w'
    rw [List.append_nil, List.length_nil, Nat.add_zero] at h3
    exact h3 h1 h2
  · exact wpL_appendR hl hS hi hz hby base v _ xs ys _ hy rfl hs hx ho hb hsz hbase h
/-- The first j of a row. -/
theorem RowAt.pre {α : Type} {enc : α → List Value} {k : Nat} {w : World} {ad : Addr} {n cap j : Nat} {xs : List α} (h : RowAt enc k w (.slice (some ad) n cap) xs) (hj : j ≤ n) : RowAt enc k w (.slice (some ad) j cap) (xs.take j) := by
  obtain ⟨p', c', e, hc, hcell⟩ := h
  simp only [Value.slice.injEq] at e
  obtain ⟨rfl, rfl, rfl⟩ := e
  have hl : (xs.take j).length = j := by rw [List.length_take]; omega
  refine ⟨some ad, cap, by rw [hl], by omega, fun hne => ?_⟩
  obtain ⟨sb, so, e, hcl⟩ := hcell (fun e => hne (by rw [e]; simp))
  refine ⟨sb, so, e, fun i hi q u hu => ?_⟩
  rw [List.getElem_take] at hu
  exact hcl i (by rw [hl] at hi; omega) q u hu
/-- A row behind its first j. -/
theorem RowAt.post {α : Type} {enc : α → List Value} {k : Nat} {w : World} {sb so n cap j : Nat} {xs : List α} (h : RowAt enc k w (.slice (some ⟨sb, so, none⟩) n cap) xs) (hj : j ≤ n) : RowAt enc k w (.slice (some ⟨sb, so + j * k, none⟩) (n - j) (cap - j)) (xs.drop j) := by
  obtain ⟨p', c', e, hc, hcell⟩ := h
  simp only [Value.slice.injEq] at e
  obtain ⟨rfl, rfl, rfl⟩ := e
  refine ⟨_, _, by rw [List.length_drop], by rw [List.length_drop]; omega, fun hne => ?_⟩
  obtain ⟨sb', so', e, hcl⟩ := hcell (fun e => hne (by rw [e]; simp))
  simp only [Option.some.injEq, Addr.mk.injEq] at e
  obtain ⟨rfl, rfl, -⟩ := e
  refine ⟨_, _, rfl, fun i hi q u hu => ?_⟩
  rw [List.getElem_drop] at hu
  have h1 := hcl (j + i) (by rw [List.length_drop] at hi; omega) q u hu
  rw [show so + j * k + i * k + q = so + (j + i) * k + q by rw [Nat.add_mul]; omega]
  exact h1
def OutRt (b base : Nat) (F : Int → Option Cl) (i : Int) (w : World) (e : Ending) (w' : World) : Prop :=
  e = .returned (.int .i64 (takeE F i)) ∧ Below base w w' ∧ KeptR w w' ∧ ∃ R', Rx w' b base R' ∧ Rep (remF F i) R'
set_option maxRecDepth 20000 in
set_option maxHeartbeats 8000000 in
theorem rtake_any (b base n : Nat) (R : List Pr) (F : Int → Option Cl) (i : Int) (w : World) (h : Rx w b base R) (hr : Rep F R) (hn : n = R.length) (hn2 : n ≤ 2000) (hbase : base ≤ w.heap.size) :
    Calls Try.prog 21 #[.pointer (some ⟨b, 0, none⟩), .int .i64 i] w fun e w' => OutRt b base F i w e w' := by
  have HFD := hid (find_any b base R i w h (by omega))
  have HX := hid h
  have HR := hid hr
  have HN := hid (fun (_ : Nat) => hn)
  have HN2 := hid hn2
  have HBA := hid hbase
  obtain ⟨Q, hQ⟩ : ∃ Q, Q = OutRt b base F i w := ⟨_, rfl⟩
  have HQ := hid (fun (_ : Nat) => hQ)
  rw [← hQ]
  clear hQ h hr hn hn2 hbase
  go_enter Try.func21, Try.ntmps21
  go_upto_region 2 with fail
  refine Calls.mono HFD.out ?_
  rintro _ w' ⟨hfd, hw⟩
  replace hw := hw.symm
  subst hw
  rcases hfd with ⟨hno, rfl⟩ | ⟨k, hk, hki, rfl⟩
  · have hF := HR.out.none hno
    have hte : takeE F i = 3 := by unfold takeE; rw [hF]; rfl
    have HTE := hid hte
    have HF := hid hF
    clear hno hF hte
    go_wp2
    rw [HQ.out 0]
    exact ⟨by rw [HTE.out]; rfl, Below.refl _ _, KeptR.below (Below.refl _ _), R, HX.out, by rw [remF_none HF.out]; exact HR.out⟩
  · have hF := HR.out.some hk
    rw [hki] at hF
    have hte : takeE F i = 0 := by unfold takeE; rw [hF]; rfl
    have HTE := hid hte
    obtain ⟨p, n', cap, hl, hb, ho, hbb⟩ := HX.out
    have hnn : n' = n := hl.trans (HN.out 0).symm
    subst hnn
    have hkn : k < n' := by have := HN.out 0; omega
    have HKI : Hid (∃ hk : k < R.length, R[k].1 = i) := ⟨hk, hki⟩
    have b0 : w.cell? ⟨b, 0, none⟩ = some (.slice p n' cap) := hb.cell 0
    obtain ⟨_, gr, rfl, hgr, hglt, _⟩ := ho.at layP k hkn
    have hrow := ho.row layP
    have hcap : n' ≤ cap := by
      obtain ⟨p', c', e, hc, _⟩ := hrow
      simp only [Value.slice.injEq] at e
      obtain ⟨-, e1, rfl⟩ := e
      omega
    have hn6 : (n' : Int) ≤ 2000 := by have := HN2.out; omega
    have HRW := hid hrow
    have HBK := hid hb
    have HBB := hid hbb
    have HON := hid ho
    have hki' : (k : Int) < (n' : Int) := by omega
    clear hF hte hl hb ho hrow hbb hk hki
    have hkz : ((k : Int) < 0) = False := by simp
    have hm1 : k = (R.take k).length := by rw [List.length_take]; have := HN.out 0; omega
    have HM1 := hid hm1
    have HN1 : Hid (([] : List Pr).length + (R.take k).length = k) := by rw [← hm1]; exact hid (by simp)
    have HO0 : Hid (OwnR encP 68 3 w base (.slice none 0 0) []) := OwnR.nil _ _ _ _ _
    have HR1 := hid (HRW.out.pre (Nat.le_of_lt hkn))
    have HK1 : Hid (k ≤ 1000000) := hid (by have := HN2.out; omega)
    have hkc : k ≤ cap := by omega
    clear hm1
    go_upto_region 5 with fail
    go_upto_region 6 with (first
      | ((with_reducible refine wpL_appendRa layP Try.underlying27 info68 rfl (by omega) base (.slice none 0 0) ⟨gr, 0, none⟩ k cap [] (R.take k) k HM1.out HN1.out ?_ ?_ HO0.out HR1.out HK1.out HBA.out ?_); (rfl); (rfl); (intro p5 c5 w5 ho5 hg5)))
    have hb5 : Below w.heap.size w w5 := hg5.belowR (OwnR.nil encP 68 3 w w.heap.size) (Nat.le_refl _)
    have HB5 := hid hb5
    have HBK5 := hid (HBK.out.below hb5 HBK.out.lt)
    have HRW5 := hid (HRW.out.below hb5)
    have HO5 := hid ho5
    have b5 : w5.cell? ⟨b, 0, none⟩ = some (.slice (some ⟨gr, 0, none⟩) n' cap) := HBK5.out.cell 0
    have hS5 : Hid (base ≤ w5.heap.size) := Nat.le_trans HBA.out hb5.size
    have hkw : IntKind.i64.wrap ((k : Int) + 1) = (k : Int) + 1 := by rw [IntKind.wrap_i64]; omega
    clear hb5 ho5 hg5 HO0 HR1 HK1 HM1 HN1
    by_cases hcq : cap = k + 1
    · subst hcq
      have hn1 : n' = k + 1 := by omega
      have HRD : Hid (RowAt encP 3 w5 (.slice (some ⟨gr, 0, none⟩) 0 0) (R.drop (k + 1))) := by
        have h1 : R.drop (k + 1) = [] := List.drop_eq_nil_of_le (by have := HN.out 0; omega)
        rw [h1]
        exact ⟨_, 0, rfl, Nat.le_refl _, fun h => absurd rfl h⟩
      have hm2 : 0 = (R.drop (k + 1)).length := by rw [List.length_drop, ← HN.out 0]; omega
      have HM2 := hid hm2
      have HN3 : Hid (([] ++ R.take k).length + (R.drop (k + 1)).length = k) := by
        rw [List.nil_append, List.length_take, List.length_drop]; have := HN.out 0; exact hid (by omega)
      have HK3 : Hid (k ≤ 1000000) := by have := HN2.out; exact hid (by omega)
      clear hm2
      go_upto_region 7 with (first
        | ((with_reducible refine wpL_appendRa layP Try.underlying27 info68 rfl (by omega) base (.slice p5 k c5) ⟨gr, 0, none⟩ 0 0 ([] ++ R.take k) (R.drop (k + 1)) (k) HM2.out HN3.out ?_ ?_ HO5.out HRD.out HK3.out hS5.out ?_); (rfl); (rfl); (intro p6 c6 w6 ho6 hg6)))
      have HB6 : Hid (Below base w w6) := (HB5.out.mono HBA.out).trans (hg6.belowR HO5.out hS5.out)
      have HK6 : Hid (KeptR w w6) := (KeptR.below HB5.out).trans (KeptR.gro HO5.out hg6)
      have HBK6 := hid (hg6.blk HBK5.out (ownR_blk HO5.out HBK5.out (by decide)))
      have HO6 := hid ho6
      have b6 : w6.cell? ⟨b, 0, none⟩ = some (.slice (some ⟨gr, 0, none⟩) n' (k + 1)) := HBK6.out.cell 0
      have f6 : w6.frozen? ⟨b, 0, none⟩ = false := HBK6.out.frozen 0
      clear ho6 hg6 HM2 HN3 HK3 HRD HO5 HB5 HBK5 hS5 b5
      go_wp2
      rw [HQ.out 0]
      obtain ⟨hk, hki⟩ := HKI.out
      refine ⟨by rw [HTE.out]; rfl, HB6.out.setCell HBB.out _, HK6.out.trans (KeptR.set HBK6.out (Or.inl rfl) _ _), R.take k ++ R.drop (k + 1), ⟨p6, k, c6, ?_, HBK6.out.set 0 _, ?_, HBB.out⟩, HR.out.del hk hki⟩
      · rw [List.length_append, List.length_take, List.length_drop]
        have := HN.out 0
        omega
      · have h1 := HO6.out
        rw [List.nil_append] at h1
        refine h1.stay fun m hm => Below.heap_setCell _ _ _ _ fun e => ?_
        have e' : m = b := e
        exact ownR_blk h1 HBK6.out (by decide) (by rw [← e']; exact hm)
    · have hcf : (cap = k + 1) = False := by simp; omega
      have HRD : Hid (RowAt encP 3 w5 (.slice (some ⟨gr, (k + 1) * 3, none⟩) (n' - (k + 1)) (cap - (k + 1))) (R.drop (k + 1))) := by
        have h1 := HRW5.out.post (j := k + 1) (by omega)
        rw [Nat.zero_add] at h1; exact h1
      clear hcq
      have hm2 : n' - (k + 1) = (R.drop (k + 1)).length := by rw [List.length_drop, ← HN.out 0]
      have HM2 := hid hm2
      have HN3 : Hid (([] ++ R.take k).length + (R.drop (k + 1)).length = n' - 1) := by
        rw [List.nil_append, List.length_take, List.length_drop]; have := HN.out 0; exact hid (by omega)
      have HK3 : Hid (n' - 1 ≤ 1000000) := by have := HN2.out; exact hid (by omega)
      clear hm2
      go_upto_region 7 with (first
        | ((with_reducible refine wpL_appendRa layP Try.underlying27 info68 rfl (by omega) base (.slice p5 k c5) ⟨gr, (k + 1) * 3, none⟩ (n' - (k + 1)) (cap - (k + 1)) ([] ++ R.take k) (R.drop (k + 1)) (n' - 1) HM2.out HN3.out ?_ ?_ HO5.out HRD.out HK3.out hS5.out ?_); (rfl); (rfl); (intro p6 c6 w6 ho6 hg6)))
      have HB6 : Hid (Below base w w6) := (HB5.out.mono HBA.out).trans (hg6.belowR HO5.out hS5.out)
      have HK6 : Hid (KeptR w w6) := (KeptR.below HB5.out).trans (KeptR.gro HO5.out hg6)
      have HBK6 := hid (hg6.blk HBK5.out (ownR_blk HO5.out HBK5.out (by decide)))
      have HO6 := hid ho6
      have b6 : w6.cell? ⟨b, 0, none⟩ = some (.slice (some ⟨gr, 0, none⟩) n' cap) := HBK6.out.cell 0
      have f6 : w6.frozen? ⟨b, 0, none⟩ = false := HBK6.out.frozen 0
      clear ho6 hg6 HM2 HN3 HK3 HRD HO5 HB5 HBK5 hS5 b5
      go_wp2
      rw [HQ.out 0]
      obtain ⟨hk, hki⟩ := HKI.out
      refine ⟨by rw [HTE.out]; rfl, HB6.out.setCell HBB.out _, HK6.out.trans (KeptR.set HBK6.out (Or.inl rfl) _ _), R.take k ++ R.drop (k + 1), ⟨p6, n' - 1, c6, ?_, HBK6.out.set 0 _, ?_, HBB.out⟩, HR.out.del hk hki⟩
      · rw [List.length_append, List.length_take, List.length_drop]
        have := HN.out 0
        omega
      · have h1 := HO6.out
        rw [List.nil_append] at h1
        refine h1.stay fun m hm => Below.heap_setCell _ _ _ _ fun e => ?_
        have e' : m = b := e
        exact ownR_blk h1 HBK6.out (by decide) (by rw [← e']; exact hm)
end Go.Proofs.Ytnilgnnlobiojaa
