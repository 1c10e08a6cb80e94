/- An entity is put in another's place: the program's Set, the reference's. -/
import Derived.Test.YtdagkeklfhlcnaaRfc
namespace Go.Proofs.Ytdagkeklfhlcnaa
open Go.RowKit
/-- One entity of a flat row is overwritten. -/
theorem fl_over {l : List (List Int)} (h : Elev l) (i : Nat) (hi : i < l.length) (e : List Int) (he : e.length = 11) (tl : List Value) : over (fl l ++ tl) (i * 11) (e.map I) = fl (l.set i e) ++ tl := by
  have hT : Elev (l.take i) := fun x hx => h x (List.mem_of_mem_take hx)
  have lT : (fl (l.take i)).length = i * 11 := by rw [fl_length hT, List.length_take]; congr 1; omega
  have hx : (l.getD i []).length = 11 := h _ (by rw [List.getD, List.getElem?_eq_getElem hi]; simp)
  have el : l = l.take i ++ (l.getD i [] :: l.drop (i + 1)) := by
    rw [List.getD, List.getElem?_eq_getElem hi]
    simp
  have es : l.set i e = l.take i ++ (e :: l.drop (i + 1)) := by rw [List.set_eq_take_append_cons_drop, if_pos hi]
  have e1 : fl l ++ tl = fl (l.take i) ++ ((l.getD i []).map I ++ (fl (l.drop (i + 1)) ++ tl)) := by
    rw [← List.append_assoc ((l.getD i []).map I), ← fl_cons, ← List.append_assoc, ← fl_append, ← el]
  have e2 : fl (l.set i e) ++ tl = fl (l.take i) ++ (e.map I ++ (fl (l.drop (i + 1)) ++ tl)) := by
    rw [← List.append_assoc (e.map I), ← fl_cons, ← List.append_assoc, ← fl_append, ← es]
  have h1 : (e.map I).length = 11 := by rw [List.length_map]; exact he
  have h2 : ((l.getD i []).map I).length = 11 := by rw [List.length_map]; exact hx
  have := over_mid (fl (l.take i)) ((l.getD i []).map I) (fl (l.drop (i + 1)) ++ tl) (e.map I) (by omega)
  rw [lT, h1, show ((l.getD i []).map I).drop 11 = [] from List.drop_eq_nil_of_le (by omega), List.nil_append] at this
  rw [e1, e2, this]
theorem Elev.set {l : List (List Int)} (h : Elev l) (i : Nat) (e : List Int) (he : e.length = 11) : Elev (l.set i e) := fun x hx => by
  rcases List.mem_or_eq_of_mem_set hx with h1 | h1
  · exact h x h1
  · rw [h1]; exact he
theorem Tb.swap {w : World} {b : Nat} {l : List (List Int)} {past : Int} (h : Tb w b l past) (i : Nat) (hi : i < l.length) (e : List Int) (he : e.length = 11) :
    w.there b (i * 11) 11 ∧ Tb (w.setCells b (i * 11) (e.map I)) b (l.set i e) past := by
  obtain ⟨rest, h, h1, h2, h3⟩ := h
  have hlen := tbL_length h1 h2 h3 (l.length : Int) past
  have hs := h.setCells (e.map I) (i * 11) (by rw [List.length_map, he, hlen]; omega)
  rw [tbL, fl_over h1 i hi e he] at hs
  refine ⟨h.there _ _ (by rw [hlen]; omega), rest, ?_, h1.set i e he, h2, by rw [List.length_set]; exact h3⟩
  rw [List.length_set]; exact hs
theorem OwnE.swap {w : World} {base : Nat} {p : Option Addr} {N cap : Nat} {l : List (List Int)} (h : OwnE w base (.slice p N cap) l) (i : Nat) (hi : i < N) (e : List Int) (he : e.length = 11) :
    ∃ g, p = some ⟨g, 0, none⟩ ∧ base ≤ g ∧ g < w.heap.size ∧ w.there g (i * 11) 11 ∧ OwnE (w.setCells g (i * 11) (e.map I)) base (.slice p N cap) (l.set i e) := by
  obtain ⟨⟨hl, ⟨hv, hn⟩ | ⟨g, c, cur, hv, hg, hh, hc, hm, hcs, ht⟩⟩, hel⟩ := h
  · simp at hv; omega
  · simp at hv
    obtain ⟨rfl, rfl, rfl⟩ := hv
    have hb : Blk w g cur.toList 32 := hh
    have hll : cur.toList.length = cap * 11 := by rw [Array.length_toList]; exact hcs
    have hs := hb.setCells (e.map I) (i * 11) (by rw [List.length_map, he, hll]; omega)
    have ec : cur.toList = fl l ++ cur.toList.drop (l.length * 11) := by rw [← ht, List.take_append_drop]
    have eo : over cur.toList (i * 11) (e.map I) = fl (l.set i e) ++ cur.toList.drop (l.length * 11) := by
      rw [ec, fl_over hel i hi e he]
      congr 1
      rw [List.drop_append_of_le_length (by rw [fl_length hel]; omega)]
      rw [← fl_length hel, List.drop_length, List.nil_append]
    refine ⟨g, rfl, hg, hb.lt, hb.there _ _ (by rw [hll]; omega), ⟨fl_length (hel.set i e he), Or.inr ⟨g, cap, (over cur.toList (i * 11) (e.map I)).toArray, by rw [List.length_set], hg, hs, by rw [List.length_set]; exact hc, hm, ?_, ?_⟩⟩, hel.set i e he⟩
    · rw [eo, List.size_toArray, List.length_append, fl_length (hel.set i e he), List.length_set, List.length_drop, hll]; omega
    · rw [eo, List.length_set, List.take_append_of_le_length (by rw [fl_length (hel.set i e he), List.length_set]; omega)]
      rw [← List.length_set (i := i) (a := e), ← fl_length (hel.set i e he), List.take_length]
/-- What a Set of the program leaves. -/
def OutSet (w : World) (b : Nat) (l : List (List Int)) (past : Int) (q : Ending) (w' : World) : Prop := q = .returned (.int .i64 0) ∧ Tb w' b l past ∧ Only b w w'
set_option maxHeartbeats 2000000 in
theorem setNone_any (b : Nat) (l : List (List Int)) (past : Int) (e : List Int) (he : e.length = 11) (w : World) (h : Tb w b l past) (hf : fnd l (e.getD 0 0) 0 = -1) : Calls Try.prog 19 #[P b, E e] w fun r w' => Out w (.int .i64 3) r w' := by
  obtain ⟨z0, z1, z2, z3, z4, z5, z6, z7, z8, z9, z10, rfl⟩ := eleven he
  have h30 : Hid (∀ W, Tb W b l past → Calls Try.prog 30 #[P b, .int .i64 z0] W fun r w' => Out W (.int .i64 (-1)) r w') := fun W h => by
    have := find_any b l past z0 W h
    rwa [show fnd l z0 0 = -1 from hf] at this
  have HT := hid h
  have HLT := hid h.lt
  obtain ⟨W, hW⟩ : ∃ W, W = w.alloc (.cells #[Value.int .i64 z0, .int .i64 z1, .int .i64 z2, .int .i64 z3, .int .i64 z4, .int .i64 z5, .int .i64 z6, .int .i64 z7, .int .i64 z8, .int .i64 z9, .int .i64 z10] 32) := ⟨_, rfl⟩
  obtain ⟨g, hg⟩ : ∃ g, g = w.heap.size := ⟨_, rfl⟩
  have HBW : Hid (Below w.heap.size w W) := by rw [hW]; exact (Below.refl _ _).alloc (Nat.le_refl _) _
  have g0 : W.cell? ⟨g, 0, none⟩ = some (.int .i64 z0) := by rw [hW, hg]; exact (Blk.new w [.int .i64 z0, .int .i64 z1, .int .i64 z2, .int .i64 z3, .int .i64 z4, .int .i64 z5, .int .i64 z6, .int .i64 z7, .int .i64 z8, .int .i64 z9, .int .i64 z10] 32).cell 0
  unfold E Out
  unfold P Out at *
  simp only [List.map_cons, List.map_nil, I]
  clear h hf he
  go_enter Try.func19, Try.ntmps19
  go_upto_region 1 with fail
  rw [← hW, ← hg]
  clear hW hg
  go_wp2_with fail
  refine Calls.mono (h30.out _ (HT.out.below HBW.out HLT.out)) ?_
  rintro e w1 ⟨rfl, hb1⟩
  have HB1 := hid (HBW.out.trans (hb1.mono HBW.out.size))
  clear hb1
  go_wp2
  go_ret
  exact ⟨rfl, HB1.out⟩
set_option maxHeartbeats 4000000 in
theorem set_any (b : Nat) (l : List (List Int)) (past : Int) (e : List Int) (he : e.length = 11) (i : Nat) (w : World) (h : Tb w b l past) (hf : fnd l (e.getD 0 0) 0 = (i : Int)) (hi : i < l.length) : Calls Try.prog 19 #[P b, E e] w fun r w' => OutSet w b (l.set i e) past r w' := by
  obtain ⟨z0, z1, z2, z3, z4, z5, z6, z7, z8, z9, z10, rfl⟩ := eleven he
  have h30 : Hid (∀ W, Tb W b l past → Calls Try.prog 30 #[P b, .int .i64 z0] W fun r w' => Out W (.int .i64 (i : Int)) r w') := fun W h => by
    have := find_any b l past z0 W h
    rwa [show fnd l z0 0 = (i : Int) from hf] at this
  have HT := hid h
  have HLT := hid h.lt
  have hn := h.few
  have hi0 : ((i : Int) < 0) = False := by simp
  have hi1 : (i : Int) < 40 := by omega
  have hi2 : (0 : Int) ≤ (i : Int) := by omega
  have HI := hid hi
  obtain ⟨W, hW⟩ : ∃ W, W = w.alloc (.cells #[Value.int .i64 z0, .int .i64 z1, .int .i64 z2, .int .i64 z3, .int .i64 z4, .int .i64 z5, .int .i64 z6, .int .i64 z7, .int .i64 z8, .int .i64 z9, .int .i64 z10] 32) := ⟨_, rfl⟩
  obtain ⟨g, hg⟩ : ∃ g, g = w.heap.size := ⟨_, rfl⟩
  have HBW : Hid (Below w.heap.size w W) := by rw [hW]; exact (Below.refl _ _).alloc (Nat.le_refl _) _
  have HGW : Hid (Blk W g [.int .i64 z0, .int .i64 z1, .int .i64 z2, .int .i64 z3, .int .i64 z4, .int .i64 z5, .int .i64 z6, .int .i64 z7, .int .i64 z8, .int .i64 z9, .int .i64 z10] 32) := by rw [hW, hg]; exact Blk.new _ _ _
  have g0 : W.cell? ⟨g, 0, none⟩ = some (.int .i64 z0) := HGW.out.cell 0
  unfold E OutSet
  unfold P Out at *
  simp only [List.map_cons, List.map_nil, I]
  clear h hf he hi hn
  go_enter Try.func19, Try.ntmps19
  go_upto_region 1 with fail
  rw [← hW, ← hg]
  clear hW hg
  go_wp2_with fail
  refine Calls.mono (h30.out _ (HT.out.below HBW.out HLT.out)) ?_
  rintro e w1 ⟨rfl, hb1⟩
  have HB1 := hid (HBW.out.trans (hb1.mono HBW.out.size))
  have HG1 := hid (HGW.out.below hb1 HGW.out.lt)
  have HT1 := hid (HT.out.below HB1.out HLT.out)
  clear hb1 g0 HBW HGW
  go_upto_region 4 with fail
  have g0 : w1.cell? ⟨g, 0, none⟩ = some (.int .i64 z0) := HG1.out.cell 0
  have g1 : w1.cell? ⟨g, 1, none⟩ = some (.int .i64 z1) := HG1.out.cell 1
  have g2 : w1.cell? ⟨g, 2, none⟩ = some (.int .i64 z2) := HG1.out.cell 2
  have g3 : w1.cell? ⟨g, 3, none⟩ = some (.int .i64 z3) := HG1.out.cell 3
  have g4 : w1.cell? ⟨g, 4, none⟩ = some (.int .i64 z4) := HG1.out.cell 4
  have g5 : w1.cell? ⟨g, 5, none⟩ = some (.int .i64 z5) := HG1.out.cell 5
  have g6 : w1.cell? ⟨g, 6, none⟩ = some (.int .i64 z6) := HG1.out.cell 6
  have g7 : w1.cell? ⟨g, 7, none⟩ = some (.int .i64 z7) := HG1.out.cell 7
  have g8 : w1.cell? ⟨g, 8, none⟩ = some (.int .i64 z8) := HG1.out.cell 8
  have g9 : w1.cell? ⟨g, 9, none⟩ = some (.int .i64 z9) := HG1.out.cell 9
  have g10 : w1.cell? ⟨g, 10, none⟩ = some (.int .i64 z10) := HG1.out.cell 10
  go_still_tail 6, (by kernel_rfl)
  rw [show ({ heap := w1.heap, tape := w1.tape, drawn := w1.drawn + 1, os := w1.os, output := w1.output } : World) = w1.drew from rfl]
  obtain ⟨es, hes⟩ : ∃ es, es = [z0, z1, z2, z3, z4, z5, z6, z7, z8, z9, z10] := ⟨_, rfl⟩
  obtain ⟨cs, hcs⟩ : ∃ cs, cs = es.map I := ⟨_, rfl⟩
  have HSW := hid ((HT1.out.keep (w' := w1.drew) rfl).swap i HI.out es (by rw [hes]; rfl))
  rw [← hcs] at HSW
  have hlen : cs.length = 11 := by rw [hcs, hes]; rfl
  have HP1 : Hid (w1.drew.there b (i * 11) cs.length) := by rw [hlen]; exact HSW.out.1
  have hone : Hid (∀ v ∈ cs, v.oneCell' = true) := by rw [hcs]; exact ent_one es
  have hsz : Hid ((Try.prog.info? 32).map (·.size) = some cs.length) := by rw [hlen]; exact size32
  have hval : Value.agg #[.int .i64 z0, .int .i64 z1, .int .i64 z2, .int .i64 z3, .int .i64 z4, .int .i64 z5, .int .i64 z6, .int .i64 z7, .int .i64 z8, .int .i64 z9, .int .i64 z10] = .agg cs.toArray := by rw [hcs, hes]; rfl
  rw [hval]
  have HES := hid (fun (_ : Nat) => hes)
  clear hval hcs hes hlen g0 g1 g2 g3 g4 g5 g6 g7 g8 g9 g10
  go_upto_region 5 with (first
    | ((with_reducible refine wpL_store 32 b (i * 11) cs ?_ ?_ ?_ hsz.out hone.out ?_); (rfl); (rfl); (exact HP1.out); (simp only [Act.put])))
  have HO4 : Hid (Only b w (w1.drew.setCells b (i * 11) cs)) := ((Below.only HB1.out b).trans (Only.drewn b w1)).trans (Only.sets b _ w1.drew cs)
  have HT4 := hid HSW.out.2
  rw [HES.out 0] at HT4
  clear HSW HP1 hone hsz
  generalize w1.drew.setCells b (i * 11) cs = W4 at *
  go_wp2
  go_ret
  exact ⟨rfl, HT4.out, HO4.out⟩
/-- What a Set of the reference leaves. -/
def OutRSet (w : World) (r : Nat) (l : List (List Int)) (nx : Int) (q : Ending) (w' : World) : Prop := q = .returned (.int .i64 0) ∧ Rf w' r l nx ∧ Below r w w' ∧ Rkeep r w w'
set_option maxHeartbeats 2000000 in
theorem rsetNone_any (r : Nat) (l : List (List Int)) (nx : Int) (e : List Int) (he : e.length = 11) (w : World) (h : Rf w r l nx) (hs : l.length ≤ 1000000) (hf : fnd l (e.getD 0 0) 0 = -1) : Calls Try.prog 23 #[P r, E e] w fun q w' => Out w (.int .i64 3) q w' := by
  obtain ⟨z0, z1, z2, z3, z4, z5, z6, z7, z8, z9, z10, rfl⟩ := eleven he
  have h33 : Hid (∀ W, Rf W r l nx → Calls Try.prog 33 #[P r, .int .i64 z0] W fun q w' => q = .returned (.int .i64 (-1)) ∧ w' = W) := fun W h => by
    have := rfind_any r l nx z0 W h hs
    rwa [show fnd l z0 0 = -1 from hf] at this
  have HT := hid h
  obtain ⟨W, hW⟩ : ∃ W, W = w.alloc (.cells #[Value.int .i64 z0, .int .i64 z1, .int .i64 z2, .int .i64 z3, .int .i64 z4, .int .i64 z5, .int .i64 z6, .int .i64 z7, .int .i64 z8, .int .i64 z9, .int .i64 z10] 32) := ⟨_, rfl⟩
  obtain ⟨g, hg⟩ : ∃ g, g = w.heap.size := ⟨_, rfl⟩
  have HBW : Hid (Below w.heap.size w W) := by rw [hW]; exact (Below.refl _ _).alloc (Nat.le_refl _) _
  have g0 : W.cell? ⟨g, 0, none⟩ = some (.int .i64 z0) := by rw [hW, hg]; exact (Blk.new w [.int .i64 z0, .int .i64 z1, .int .i64 z2, .int .i64 z3, .int .i64 z4, .int .i64 z5, .int .i64 z6, .int .i64 z7, .int .i64 z8, .int .i64 z9, .int .i64 z10] 32).cell 0
  unfold E Out
  unfold P at *
  simp only [List.map_cons, List.map_nil, I]
  clear h hf he hs
  go_enter Try.func23, Try.ntmps23
  go_upto_region 1 with fail
  rw [← hW, ← hg]
  clear hW hg
  go_wp2_with fail
  refine Calls.mono (h33.out _ (HT.out.below HBW.out)) ?_
  rintro e w1 ⟨rfl, rfl⟩
  go_wp2
  go_ret
  exact ⟨rfl, HBW.out⟩
set_option maxHeartbeats 4000000 in
theorem rset_any (r : Nat) (l : List (List Int)) (nx : Int) (e : List Int) (he : e.length = 11) (i : Nat) (w : World) (h : Rf w r l nx) (hs : l.length ≤ 1000000) (hf : fnd l (e.getD 0 0) 0 = (i : Int)) (hi : i < l.length) : Calls Try.prog 23 #[P r, E e] w fun q w' => OutRSet w r (l.set i e) nx q w' := by
  obtain ⟨z0, z1, z2, z3, z4, z5, z6, z7, z8, z9, z10, rfl⟩ := eleven he
  have h33 : Hid (∀ W, Rf W r l nx → Calls Try.prog 33 #[P r, .int .i64 z0] W fun q w' => q = .returned (.int .i64 (i : Int)) ∧ w' = W) := fun W h => by
    have := rfind_any r l nx z0 W h hs
    rwa [show fnd l z0 0 = (i : Int) from hf] at this
  obtain ⟨W, hW⟩ : ∃ W, W = w.alloc (.cells #[Value.int .i64 z0, .int .i64 z1, .int .i64 z2, .int .i64 z3, .int .i64 z4, .int .i64 z5, .int .i64 z6, .int .i64 z7, .int .i64 z8, .int .i64 z9, .int .i64 z10] 32) := ⟨_, rfl⟩
  obtain ⟨g, hg⟩ : ∃ g, g = w.heap.size := ⟨_, rfl⟩
  have HBW : Hid (Below w.heap.size w W) := by rw [hW]; exact (Below.refl _ _).alloc (Nat.le_refl _) _
  have HGW : Hid (Blk W g [.int .i64 z0, .int .i64 z1, .int .i64 z2, .int .i64 z3, .int .i64 z4, .int .i64 z5, .int .i64 z6, .int .i64 z7, .int .i64 z8, .int .i64 z9, .int .i64 z10] 32) := by rw [hW, hg]; exact Blk.new _ _ _
  have HTW := hid (h.below HBW.out)
  have HRL := hid h.lt
  have HWB := hid HBW.out.block
  obtain ⟨v0, hb0, -⟩ := h
  have HRw := hid hb0
  have g0 : W.cell? ⟨g, 0, none⟩ = some (.int .i64 z0) := HGW.out.cell 0
  have g1 : W.cell? ⟨g, 1, none⟩ = some (.int .i64 z1) := HGW.out.cell 1
  have g2 : W.cell? ⟨g, 2, none⟩ = some (.int .i64 z2) := HGW.out.cell 2
  have g3 : W.cell? ⟨g, 3, none⟩ = some (.int .i64 z3) := HGW.out.cell 3
  have g4 : W.cell? ⟨g, 4, none⟩ = some (.int .i64 z4) := HGW.out.cell 4
  have g5 : W.cell? ⟨g, 5, none⟩ = some (.int .i64 z5) := HGW.out.cell 5
  have g6 : W.cell? ⟨g, 6, none⟩ = some (.int .i64 z6) := HGW.out.cell 6
  have g7 : W.cell? ⟨g, 7, none⟩ = some (.int .i64 z7) := HGW.out.cell 7
  have g8 : W.cell? ⟨g, 8, none⟩ = some (.int .i64 z8) := HGW.out.cell 8
  have g9 : W.cell? ⟨g, 9, none⟩ = some (.int .i64 z9) := HGW.out.cell 9
  have g10 : W.cell? ⟨g, 10, none⟩ = some (.int .i64 z10) := HGW.out.cell 10
  obtain ⟨v, hb, ho⟩ := HTW.out
  obtain rfl : v0 = v := by have := Blk.inj (hb0.below HBW.out hb0.lt) hb; simpa using this
  obtain ⟨p, cap, rfl⟩ := ho.form
  obtain ⟨es, hes⟩ : ∃ es, es = [z0, z1, z2, z3, z4, z5, z6, z7, z8, z9, z10] := ⟨_, rfl⟩
  have HOD : Hid (OwnE W.drew (r + 1) (.slice p l.length cap) l) := ho.keep fun _ _ _ => rfl
  have HRB := hid hb
  obtain ⟨u, rfl, hu, hul, hth, how⟩ := HOD.out.swap i hi es (by rw [hes]; rfl)
  have c0 : W.cell? ⟨r, 0, none⟩ = some (.slice (some ⟨u, 0, none⟩) l.length cap) := hb.cell 0
  have hi0 : ((i : Int) < 0) = False := by simp
  have hi1 : (i : Int) < (l.length : Int) := by omega
  have hi2 : (0 : Int) ≤ (i : Int) := by omega
  obtain ⟨cs, hcs⟩ : ∃ cs, cs = es.map I := ⟨_, rfl⟩
  rw [← hcs] at how
  have HOW := hid how
  have HTH := hid hth
  have HUR := hid hu
  have hlen : cs.length = 11 := by rw [hcs, hes]; rfl
  have HP1 : Hid (W.drew.there u (i * 11) cs.length) := by rw [hlen]; exact hth
  have hone : Hid (∀ v ∈ cs, v.oneCell' = true) := by rw [hcs]; exact ent_one es
  have hsz : Hid ((Try.prog.info? 32).map (·.size) = some cs.length) := by rw [hlen]; exact size32
  have HVAL : Hid (Value.agg #[.int .i64 z0, .int .i64 z1, .int .i64 z2, .int .i64 z3, .int .i64 z4, .int .i64 z5, .int .i64 z6, .int .i64 z7, .int .i64 z8, .int .i64 z9, .int .i64 z10] = .agg cs.toArray) := by rw [hcs, hes]; exact hid rfl
  unfold E OutRSet
  unfold P at *
  simp only [List.map_cons, List.map_nil, I]
  have HES := hid (fun (_ : Nat) => hes)
  clear hb0 hf he hi hb ho how hth hu hul hcs hes hs hlen HOD
  generalize l.length = N at *
  go_enter Try.func23, Try.ntmps23
  go_upto_region 1 with fail
  rw [← hW, ← hg]
  clear hW hg
  go_wp2_with fail
  refine Calls.mono (h33.out _ HTW.out) ?_
  rintro e w1 ⟨rfl, hw⟩
  subst hw
  go_upto_region 4 with fail
  go_still_tail 7, (by kernel_rfl)
  rw [show ({ heap := w1.heap, tape := w1.tape, drawn := w1.drawn + 1, os := w1.os, output := w1.output } : World) = w1.drew from rfl]
  rw [HVAL.out]
  clear HVAL c0 g0 g1 g2 g3 g4 g5 g6 g7 g8 g9 g10
  go_upto_region 5 with (first
    | ((with_reducible refine wpL_store 32 u (i * 11) cs ?_ ?_ ?_ hsz.out hone.out ?_); (rfl); (rfl); (exact HP1.out); (simp only [Act.put])))
  have HB4 : Hid (Below r w (w1.drew.setCells u (i * 11) cs)) := Below.setCells (Below.drewN (HBW.out.mono (Nat.le_of_lt HRL.out)) 1) (by have := HUR.out; omega) _ _
  have HR4 : Hid (Blk (w1.drew.setCells u (i * 11) cs) r [.slice (some ⟨u, 0, none⟩) N cap, .int .i64 nx] 38) := HRB.out.drew.setCells_ne u (by have := HUR.out; omega) _ cs
  rw [HES.out 0] at HOW
  have HKK : Hid (∀ k, k ≠ u → k < w.heap.size → (w1.drew.setCells u (i * 11) cs).heap[k]? = w.heap[k]?) := fun k h1 h2 => (heap_setCells u cs (i * 11) w1.drew k h1).trans (HWB.out k h2)
  generalize w1.drew.setCells u (i * 11) cs = W4 at *
  clear HP1 hone hsz HTH
  go_wp2
  go_ret
  exact ⟨rfl, ⟨_, HR4.out, HOW.out⟩, HB4.out, Rkeep.mk HRw.out fun k h1 h2 h3 => HKK.out k (fun e => h2 (by rw [e]; rfl)) h3⟩
end Go.Proofs.Ytdagkeklfhlcnaa
