/- The reference's ReadReplay 39. -/
import Derived.Test.YtpiflgbcbhnmpaaRfw
import Derived.Test.YtpiflgbcbhnmpaaRrep
namespace Go.Proofs.Ytpiflgbcbhnmpaa
open Go.RowKit
attribute [local go_sem ↓] zv47 zv39 zv41
theorem pBlk0_both {s : S2} (hg : Gd s) : Gd (pBlk0 s).2 ∧ (s.2 = true → (pBlk0 s).2.2 = true) := by
  unfold pBlk0
  obtain ⟨t, s1, ht⟩ : ∃ a b, pN 59 s = (a, b) := ⟨_, _, rfl⟩
  obtain ⟨pa, s2, hpa⟩ : ∃ a b, pD s1 = (a, b) := ⟨_, _, rfl⟩
  obtain ⟨pb, s3, hpb⟩ : ∃ a b, pD s2 = (a, b) := ⟨_, _, rfl⟩
  obtain ⟨pc, s4, hpc⟩ : ∃ a b, pD s3 = (a, b) := ⟨_, _, rfl⟩
  obtain ⟨n, s5, hn⟩ : ∃ a b, pN 4 s4 = (a, b) := ⟨_, _, rfl⟩
  have F1 : Gd s1 ∧ (s.2 = true → s1.2 = true) := by have h1 := pN_gd hg 59; have h2 := pN_stk hg 59; rw [ht] at h1 h2; exact ⟨h1, h2⟩
  have F2 : Gd s2 ∧ (s1.2 = true → s2.2 = true) := by have h1 := pD_gd F1.1; have h2 := pD_stk F1.1; rw [hpa] at h1 h2; exact ⟨h1, h2⟩
  have F3 : Gd s3 ∧ (s2.2 = true → s3.2 = true) := by have h1 := pD_gd F2.1; have h2 := pD_stk F2.1; rw [hpb] at h1 h2; exact ⟨h1, h2⟩
  have F4 : Gd s4 ∧ (s3.2 = true → s4.2 = true) := by have h1 := pD_gd F3.1; have h2 := pD_stk F3.1; rw [hpc] at h1 h2; exact ⟨h1, h2⟩
  have F5 : Gd s5 ∧ (s4.2 = true → s5.2 = true) := by have h1 := pN_gd F4.1 4; have h2 := pN_stk F4.1 4; rw [hn] at h1 h2; exact ⟨h1, h2⟩
  have hL : pList 4 pSeal s4 = pMany pSeal n s5 := by unfold pList; rw [hn]
  simp only [ht, hpa, hpb, hpc, hL]
  exact ⟨pMany_gd (fun _ h => pSeal_gd h) n s5 F5.1, fun h => pMany_stk (fun _ h => pSeal_gd h) (fun _ h h' => pSeal_stk h h') n s5 F5.1 (F5.2 (F4.2 (F3.2 (F2.2 (F1.2 h)))))⟩
theorem pBlk_both {s : S2} (hg : Gd s) : Gd (pBlk s).2 ∧ (s.2 = true → (pBlk s).2.2 = true) := by
  obtain ⟨h1, h2⟩ := pBlk0_both hg
  obtain ⟨x, hx⟩ : ∃ x, x = pBlk0 s := ⟨_, rfl⟩
  have e2 : (pBlk s).2 = if x.1.ok then x.2 else ([], true) := by rw [hx]; rfl
  rw [e2]
  rw [← hx] at h1 h2
  generalize x.1.ok = b at *
  cases b
  · exact ⟨fun _ => rfl, fun _ => rfl⟩
  · exact ⟨h1, h2⟩
/-- A list of blocks whose members are known only where all is well. -/
def OwnH (w : World) (base : Nat) (v : Value) (ds : List Bk) (g : Prop) : Prop := ∃ ess : List (List Value), ess.length = ds.length ∧ w.ownsRow base 39 98 v ds.length ess.flatten ∧ (g → ∀ (i : Nat) (d : Bk) (es : List Value), ds[i]? = some d → ess[i]? = some es → es.length = 98 ∧ BkAt w base d es)
theorem OwnH.all {w : World} {base : Nat} {v : Value} {ds : List Bk} {g : Prop} (h : OwnH w base v ds g) (hg : g) : OwnK w base v ds := by
  obtain ⟨ess, h1, h2, h3⟩ := h
  exact ⟨ess, h1, h2, h3 hg⟩
theorem OwnH.nil (w : World) (base : Nat) (g : Prop) : OwnH w base (.slice none 0 0) [] g := ⟨[], rfl, ⟨rfl, Or.inl ⟨rfl, rfl⟩⟩, fun _ i d es h => by simp at h⟩
theorem OwnH.only {w w' : World} {base rb : Nat} {v : Value} {ds : List Bk} {g : Prop} (h : OwnH w base v ds g) (ho : Only rb w w') (hr : rb < base) : OwnH w' base v ds g := by
  obtain ⟨ess, h1, h2, h3⟩ := h
  exact ⟨ess, h1, ownsRow_only h2 ho hr, fun hg i d es hd he => ⟨(h3 hg i d es hd he).1, (h3 hg i d es hd he).2.only ho hr⟩⟩
theorem OwnH.below {w w' : World} {base : Nat} {v : Value} {ds : List Bk} {g : Prop} (h : OwnH w base v ds g) (hb : Below w.heap.size w w') : OwnH w' base v ds g := by
  obtain ⟨ess, h1, h2, h3⟩ := h
  exact ⟨ess, h1, ownsRow_stay h2 (fun k hk => hb.block k (ownsRow_block h2 k hk).2.1), fun hg i d es hd he => ⟨(h3 hg i d es hd he).1, (h3 hg i d es hd he).2.below hb⟩⟩
theorem OwnH.putIn {w w5 : World} {base : Nat} {pm : Option Addr} {i cm : Nat} {cs : List Bk} {d : Bk} {g g2 : Prop} {E : List Value} {ess : List (List Value)} {r : Option Nat}
    (hcs : cs.length = i) (hel : ess.length = i) (hmem : g → ∀ (n : Nat) (d' : Bk) (es : List Value), cs[n]? = some d' → ess[n]? = some es → es.length = 98 ∧ BkAt w base d' es) (hgg : g2 → g)
    (hE : E.length = 98) (hd : g2 → BkAt w base d E) (hg : w.grownBy w5 r) (hr : ∀ k, r = some k → ∃ cur, w.heap[k]? = some (.cells cur 39 (0, 0)))
    (hO : w5.ownsRow base 39 98 (.slice pm (i + 1) cm) (i + 1) (ess.flatten ++ E)) : OwnH w5 base (.slice pm (i + 1) cm) (cs ++ [d]) g2 := by
  refine ⟨ess ++ [E], by rw [List.length_append, List.length_append, hel, hcs]; rfl, ?_, fun hG n d' es hd' he => ?_⟩
  · rw [List.length_append, hcs, List.flatten_append]
    simpa using hO
  · rcases Nat.lt_or_ge n i with hn | hn
    · rw [List.getElem?_append_left (by rw [hcs]; exact hn)] at hd'
      rw [List.getElem?_append_left (by rw [hel]; exact hn)] at he
      obtain ⟨h1, h2⟩ := hmem (hgg hG) n d' es hd' he
      exact ⟨h1, h2.grown hg hr⟩
    · rw [List.getElem?_append_right (by rw [hcs]; exact hn), hcs] at hd'
      rw [List.getElem?_append_right (by rw [hel]; exact hn), hel] at he
      have hz : n - i = 0 := by
        have := (List.getElem?_eq_some_iff.1 hd').1
        simp at this
        omega
      rw [hz] at hd' he
      simp at hd' he
      subst hd' he
      exact ⟨hE, (hd hG).grown hg hr⟩
theorem RfAt.grown {w w' : World} {rb : Nat} {s : S2} {r : Option Nat} (h : RfAt w rb s) (hg : w.grownBy w' r) (hr : ∀ k, r = some k → rb < k ∧ ∃ cur fz ty', w.heap[k]? = some (.cells cur ty' fz) ∧ ty' ≠ 5) : RfAt w' rb s :=
  h.stay fun k hk hp => hg.block k hk fun e => by
    obtain ⟨h1, cur', fz', ty', h6, h7⟩ := hr k e.symm
    rcases hp with h4 | ⟨cur, fz, h5⟩
    · omega
    · rw [h6] at h5
      simp at h5
      exact h7 h5.2.1
set_option maxRecDepth 100000 in
set_option maxHeartbeats 8000000 in
theorem read39 (bs : List Nat) (hbs : Byt bs) (p : Option Addr) (M cap : Nat) (w : World) (hM : M = bs.length) (hB : BytesAt w (.slice p M cap) bs) :
    Calls Try.prog 39 #[.slice p M cap] w fun e w' => WhRp w (wh77 bs) (whE bs.length (pRep (bs, false)).2) e w' := by
  obtain ⟨d, s, hds⟩ : ∃ d s, pRep (bs, false) = (d, s) := ⟨_, _, rfl⟩
  unfold wh77
  rw [hds]
  show Calls _ _ _ _ fun e w' => WhRp w (if whE bs.length s = 0 then d else []) (whE bs.length s) e w'
  by_cases hbig : 262144 < bs.length
  · have e1 : (262144 : Int) < (M : Int) := by omega
    rw [show whE bs.length s = 1 by unfold whE; rw [if_pos hbig], if_neg (by decide)]
    clear hB hM hbs hbig hds
    go_enter Try.func39, Try.ntmps39
    go_wp2_with fail
    go_ret2
    exact ⟨none, 0, 0, rfl, rfl, OwnK.nil _ _, Below.refl _ _⟩
  · have e1 : ¬ (262144 : Int) < (M : Int) := by omega
    have hRd := hid (RfAt.start hB hbs (by omega))
    have hE0 : whE bs.length s = if s.2 = true ∨ 0 < s.1.length then 11 else 0 := by unfold whE; rw [if_neg hbig]
    rw [hE0]
    obtain ⟨EF, hEF⟩ : ∃ E : Int, E = (if s.2 = true ∨ 0 < s.1.length then 11 else 0) := ⟨_, rfl⟩
    rw [← hEF]
    obtain ⟨DF, hDF⟩ : ∃ D, D = (if EF = 0 then d else []) := ⟨_, rfl⟩
    rw [← hDF]
    have HBADF := hid (show (s.2 = true ∨ 0 < s.1.length) → EF = 11 ∧ DF = [] from fun h => by rw [if_pos h] at hEF; rw [hEF] at hDF; rw [if_neg (by decide)] at hDF; exact ⟨hEF, hDF⟩)
    have HOKF := hid (show ¬ (s.2 = true ∨ 0 < s.1.length) → EF = 0 ∧ DF = d from fun h => by rw [if_neg h] at hEF; rw [hEF] at hDF; rw [if_pos rfl] at hDF; exact ⟨hEF, hDF⟩)
    obtain ⟨N, s1, hn⟩ : ∃ a b, pN 60 (bs, false) = (a, b) := ⟨_, _, rfl⟩
    have hG0 : Gd (bs, false) := fun h => by cases h
    have hG1 : Hid (Gd s1) := by have := pN_gd hG0 60; rw [hn] at this; exact hid this
    have hN60 : N ≤ 60 := by have := pN_le 60 (bs, false); rw [hn] at this; exact this
    have hds' : pMany pBlk N s1 = (d, s) := by
      unfold pRep pList at hds
      rw [hn] at hds
      exact hds
    have HL0 : Hid ((d, s) = ([] ++ (pMany pBlk (N - 0) s1).1, (pMany pBlk (N - 0) s1).2)) := hid hds'.symm
    have hK := hid (number75 w.heap.size 60 (by omega) (bs, false) hG0 _ hRd.out)
    rw [hn] at hK
    unfold RfOk at hK
    simp only at hK
    rw [show (((60 : Nat) : Int) + 1) = 61 by rfl] at hK
    have HT : Hid (∀ (W : World) (s : S2), RfAt W w.heap.size s → Gd s → Calls Try.prog 72 #[.pointer (some ⟨w.heap.size, 0, none⟩)] W fun e w' => BfOk W w.heap.size (pBlk s).1 (pBlk s).2 e w') := fun W s h hg => block72 w.heap.size s hg W h
    have i1 : (N : Int) ≤ 60 := by omega
    clear hB hM hbs hbig hds hds' hE0 hEF hDF hRd hn hG0
    go_enter Try.func39, Try.ntmps39
    go_wp2_with fail
    refine Calls.mono hK.out ?_
    rintro e w1 ⟨rfl, hR1, hO1⟩
    obtain ⟨base, hbase⟩ : ∃ b, b = w.heap.size + 1 := ⟨_, rfl⟩
    have hb1 : (w.alloc (.cells #[.slice p M cap, .bool false] 99)).heap.size = base := by rw [hbase]; simp
    have HBE := hid ((Below.refl w.heap.size w).alloc (Nat.le_refl _) (.cells #[.slice p M cap, .bool false] 99))
    have hbb : w.heap.size < base := by omega
    have hbase1 : base ≤ w1.heap.size := by rw [← hb1]; exact hO1.size
    have hbase2 := hid hbase1
    have HR1 := hid hR1
    have HO1 := hid hO1
    have HBS := hid hb1
    generalize w.alloc (.cells #[.slice p M cap, .bool false] 99) = WA at *
    obtain ⟨rb, hrb⟩ : ∃ r, r = w.heap.size := ⟨_, rfl⟩
    have HRB := hid hrb
    simp only [← hrb] at HR1 HO1 HT hbb ⊢
    clear hR1 hO1 hK hbase hbase1 hb1 hrb
    go_wp2_with fail
    go_loopw [6, 7] (fun v iv wr => ∃ (i : Nat) (p : Option Addr) (cap : Nat) (cs : List Bk) (t : S2), v = .slice p i cap ∧ iv = .int .i64 (i : Nat) ∧ i ≤ N ∧ Hid (cs.length = i) ∧ Hid ((d, s) = (cs ++ (pMany pBlk (N - i) t).1, (pMany pBlk (N - i) t).2)) ∧ Hid (OwnH wr base (.slice p i cap) cs (t.2 = false)) ∧ Hid (RfAt wr rb t) ∧ Hid (Only rb WA wr) ∧ Hid (Gd t)) (fun _ iv _ => N - natOf iv)
    case atStart => exact ⟨0, none, 0, [], s1, rfl, rfl, by omega, rfl, HL0.out, OwnH.nil _ _ _, HR1, HO1, hG1⟩
    case round =>
      clear HR1 HO1 hG1 HL0
      obtain ⟨i, p, cap, cs, t, rfl, rfl, hi, hcs, hL, hOw, hR, hO, hG⟩ := hrel
      have w1' : IntKind.i64.wrap ((i : Int) + 1) = (i : Int) + 1 := by rw [IntKind.wrap_i64]; omega
      obtain ⟨vr, br, hKr, hAr, -⟩ := id hR.out
      have d1 : wr.cell? ⟨rb, 1, none⟩ = some (.bool t.2) := hKr.cell 1
      clear hKr hAr
      by_cases hgo : i < N ∧ t.2 = false
      · obtain ⟨hlt, hs2⟩ := hgo
        rw [hs2] at d1
        have e1 : (i : Int) < (N : Int) := by omega
        have hcall := hid (HT.out wr t hR.out hG.out)
        have HL2 : Hid ((d, s) = ((cs ++ [(pBlk t).1]) ++ (pMany pBlk (N - (i + 1)) (pBlk t).2).1, (pMany pBlk (N - (i + 1)) (pBlk t).2).2)) := by
          have h0 := hL.out
          rw [show N - i = (N - (i + 1)) + 1 by omega] at h0
          show _ = _
          rw [h0]
          simp [pMany]
        have HG2 := hid (pBlk_both hG.out).1
        clear hL
        generalize pBlk t = c at *
        obtain ⟨k, t2⟩ := c
        simp only at HL2 HG2 hcall
        unfold BfOk at hcall
        go_wp2_with fail
        refine Calls.mono hcall.out ?_
        rintro e w2 ⟨E, rfl, hSd, hEl, hone0, hR2, hO2⟩
        have hone := hid hone0
        have hwb : base ≤ wr.heap.size := by rw [← HBS.out]; exact hO.out.size
        have hOw2 := hOw.out.only hO2 hbb
        have hal : Below w2.heap.size w2 (w2.alloc (.cells E.toArray 39)) := (Below.refl _ _).alloc (Nat.le_refl _) _
        have hOw3 := hid (hOw2.below hal)
        have hSd3 := hid (fun hb => ((hSd hb).mono hwb).below hal)
        have hR3 := hid (hR2.below hal)
        have hO3 := hid ((hO.out.trans hO2).alloc (.cells E.toArray 39))
        have hq := hid (show ∀ j v, E[j]? = some v → (w2.alloc (.cells E.toArray 39)).cell? ⟨w2.heap.size, j, none⟩ = some v from fun j v hv => by rw [(Blk.new w2 _ 39).cell]; exact hv)
        have hbs := hid (show base ≤ (w2.alloc (.cells E.toArray 39)).heap.size from by rw [← HBS.out]; exact hO3.out.size)
        have hi6 : i < 1000000 := by omega
        have HS2 := hid (fun (_ : Nat) => hs2)
        clear hOw hOw2 hal hR hO hR2 hO2 hcall hSd hone0 hwb d1 hs2
        obtain ⟨ess, hel, hrow, hmem⟩ := hOw3.out
        rw [hcs.out] at hrow hel
        have HMEM := hid hmem
        have HEL := hid hel
        have HROW := hid hrow
        clear hOw3 hrow hmem hel
        have hbld := hid (fun W => run_build39 E hEl W)
        go_wp2_with (first
          | ((with_reducible refine wpL_bs 43 39 E ?_ hbld.out ?_); (rfl); (simp only [Act.put, List.setIfInBounds_toArray, List.set_cons_zero, List.set_cons_succ]))
          | ((with_reducible refine wpL_appendG 43 39 98 128 (.agg z39.toArray) base (.slice p i cap) i ess.flatten E w2.heap.size Try.underlying43 info39 cells39 (by omega) (by omega) ?_ ?_ HROW.out hEl hq.out hone.out hi6 hbs.out ?_); (rfl); (rfl); (intro pm cm w5 hO6 hg6); (simp only [Act.put, List.setIfInBounds_toArray, List.set_cons_zero, List.set_cons_succ])))
        have hbk := ownsRow_block HROW.out
        have hno : ∀ k, (Value.slice p i cap).ownBlock = some k → ∃ cur, (w2.alloc (.cells E.toArray 39)).heap[k]? = some (.cells cur 39 (0, 0)) := fun k hk => (hbk k hk).2.2
        have HR6 := hid (hR3.out.grown hg6 (fun k hk => by obtain ⟨a1, a2, cur, a3⟩ := hbk k hk; exact ⟨by omega, cur, _, _, a3, by decide⟩))
        have HO7 := hid (hO3.out.grown hg6 (fun k hk => by rw [HBS.out]; exact (hbk k hk).1))
        have HO6 := hid (OwnH.putIn (d := k) (g := t.2 = false) (g2 := t2.2 = false) hcs.out HEL.out HMEM.out (fun _ => HS2.out 0) hEl hSd3.out hg6 hno hO6)
        have HCL : Hid ((cs ++ [k]).length = i + 1) := by show _ = _; rw [List.length_append, hcs.out]; rfl
        clear hO6 hg6 hbk hno
        go_wp2_with fail
        go_roundw
        case rel => exact ⟨i + 1, pm, cm, cs ++ [k], t2, rfl, by go_num, by omega, HCL, HL2, HO6, HR6, HO7, HG2⟩
        case measure => simp [natOf]; omega
      · have hex : (i < N ∧ t.2 = true) ∨ i = N := by
          rcases Nat.lt_or_ge i N with h | h
          · refine Or.inl ⟨h, ?_⟩
            cases hs : t.2
            · exact absurd ⟨h, hs⟩ hgo
            · rfl
          · exact Or.inr (by omega)
        have hend := hid (ended69 rb t wr hR.out)
        obtain ⟨bd, hbd⟩ : ∃ bd, bd = (!t.2 && decide (t.1.length = 0)) := ⟨_, rfl⟩
        rw [← hbd] at hend
        have hfin : (bd = false → (s.2 = true ∨ 0 < s.1.length)) ∧ (bd = true → ¬ (s.2 = true ∨ 0 < s.1.length) ∧ cs = d ∧ t.2 = false) := by
          rcases hex with ⟨h1, h2⟩ | rfl
          · have hb : s.2 = true := by
              have h0 := congrArg Prod.snd hL.out
              simp only at h0
              rw [h0]
              exact pMany_stk (fun _ h => (pBlk_both h).1) (fun _ h h' => (pBlk_both h).2 h') _ _ hG.out h2
            exact ⟨fun _ => Or.inl hb, fun h => by rw [hbd, h2] at h; cases h⟩
          · have hLL : (d, s) = (cs, t) := by rw [hL.out, Nat.sub_self]; simp [pMany]
            obtain ⟨rfl, rfl⟩ := Prod.mk.inj hLL
            rw [hbd]
            cases hs : s.2
            · refine ⟨fun h => Or.inr ?_, fun h => ⟨?_, rfl, rfl⟩⟩
              · simp at h; exact List.length_pos_iff.2 h
              · simp at h; simp [h]
            · exact ⟨fun _ => Or.inl rfl, fun h => by cases h⟩
        have HFIN := hid hfin
        have hbe2 := hid (Only.under HBE.out hO.out (by have := HRB.out; omega) HBE.out.size)
        have HCS := hid hcs.out
        clear hfin hbd hL hG hgo HT hO
        rcases hex with ⟨hlt, hs2⟩ | rfl
        case' inl =>
          rw [hs2] at d1
          have e1 : (i : Int) < (N : Int) := by omega
        case' inr => have e1 : ((i : Int) < (i : Int)) = False := by simp
        all_goals
          go_wp2_with fail
          refine Calls.mono hend.out ?_
          rintro e w4 ⟨rfl, rfl⟩
          clear hend
          cases bd
          · obtain ⟨q1, q2⟩ := HBADF.out (HFIN.out.1 rfl)
            have Q1 := hid q1
            have Q2 := hid q2
            clear q1 q2
            go_wp2_with fail
            go_ret2
            rw [Q1.out, Q2.out]
            exact ⟨none, 0, 0, rfl, rfl, OwnK.nil _ _, hbe2.out⟩
          · obtain ⟨h1, h2, h3⟩ := HFIN.out.2 rfl
            obtain ⟨q1, q2⟩ := HOKF.out h1
            have Q1 := hid q1
            have Q2 := hid q2
            have HH2 := hid h2
            have HOW := hid ((hOw.out.all h3).mono (show w.heap.size ≤ base by have := HRB.out; omega))
            clear q1 q2 h1 h2 h3 hOw
            go_wp2_with fail
            go_ret2
            rw [Q1.out, Q2.out]
            exact ⟨_, _, _, by rw [← HH2.out]; exact HCS.out.symm, rfl, by rw [← HH2.out]; exact HOW.out, hbe2.out⟩
end Go.Proofs.Ytpiflgbcbhnmpaa
