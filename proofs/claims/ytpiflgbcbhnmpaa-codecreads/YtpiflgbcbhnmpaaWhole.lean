/- What readWhole answers, and ReadSealed, ReadBlock, ReadResult, ReadReplay. -/
import Derived.Test.YtpiflgbcbhnmpaaRres
namespace Go.Proofs.Ytpiflgbcbhnmpaa
open Go.RowKit
attribute [local go_sem ↓] zv47 zv39 zv41
/-- A function that hands back a struct and a number. -/
theorem results_cell_tmp {P : Program} {fn : Func} {p q : Tmp} {ty : TypeId} (h : fn.results = #[.cell p ty, .tmp q]) {tmps : Array Value} {w : World} {b : Nat} {l : List Value} {t : TypeId} {d : TypeDesc} {v : Value}
    (hp : tmps.getD p undef = .pointer (some ⟨b, 0, none⟩)) (hq : tmps.getD q undef = v) (hb : Blk w b l t)
    (hu : P.underlying ty = some d) (hd : d.isRow = true) (hi : (P.info? ty).map (·.size) = some l.length) :
    (results fn tmps).run P w = .ok (.tuple #[.agg l.toArray, v]) w := by
  have hl := run_loadVar_mid (P := P) w b 0 ty l d hb.range hu hd hi
  have ha : (asAddr (tmps[p]?.getD undef)).run P w = .ok ⟨b, 0, none⟩ w := by
    have : tmps[p]?.getD undef = .pointer (some ⟨b, 0, none⟩) := by simpa using hp
    rw [this]; rfl
  have hv : tmps[q]?.getD undef = v := by simpa using hq
  simp only [results, h]
  simp [Sem.run_bind, Result.andThen, ha, hl, hv]
theorem Only.under {rb B : Nat} {a b c : World} (h : Below B a b) (ho : Only rb b c) (hr : B ≤ rb) (hB : B ≤ b.heap.size) : Below B a c :=
  h.trans (ho.below hr hB)
/-- The outcome of reading all bytes: what was read, what is left; 0, or an error's number. -/
def whE (n : Nat) (s : S2) : Int := if 262144 < n then 1 else if s.2 = true ∨ 0 < s.1.length then 11 else 0
def sd0 : Sd := ⟨0, 0, 0, false, [], List.replicate 32 0⟩
def bk0 : Bk := ⟨0, List.replicate 32 0, List.replicate 32 0, List.replicate 32 0, []⟩
def rs0 : Rs := ⟨0, 0, 0, List.replicate 32 0, List.replicate 32 0⟩
theorem pRes_len (s : S2) : (pRes s).1.cells.length = 67 ∧ ∀ v ∈ (pRes s).1.cells, v.oneCell' = true := by
  unfold pRes
  obtain ⟨m, s1, hm⟩ : ∃ a b, pN 9223372036854775807 s = (a, b) := ⟨_, _, rfl⟩
  simp only [hm]
  generalize (pN 4 (pN 60 s1).2) = n
  refine ⟨rsC_length _ _ _ _ _ (by rw [List.length_map]; exact pD_32 _) (by rw [List.length_map]; exact pD_32 _), fun v hv => ?_⟩
  simp only [Rs.cells, rsC, List.mem_cons, List.mem_append] at hv
  rcases hv with rfl | rfl | rfl | hv | hv
  · rfl
  · rfl
  · rfl
  · exact mapBy_one _ v hv
  · exact mapBy_one _ v hv

def WhSd (w : World) (d : Sd) (E : Int) (e : Ending) (w' : World) : Prop := ∃ es, e = .returned (.tuple #[.agg es.toArray, .int .i64 E]) ∧ SdAt w' w.heap.size d es ∧ es.length = 37 ∧ (∀ v ∈ es, v.oneCell' = true) ∧ Below w.heap.size w w'
def wh66 (bs : List Nat) : Sd := if whE bs.length (pSeal (bs, false)).2 = 0 then (pSeal (bs, false)).1 else sd0
set_option maxRecDepth 100000 in
set_option maxHeartbeats 8000000 in
theorem readWhole66 (bs : List Nat) (hbs : Byt bs) (p : Option Addr) (M cap : Nat) (w : World) (hM : M = bs.length) (hB : BytesAt w (.slice p M cap) bs) :
    Calls Try.prog 66 #[.slice p M cap, .func (.func 67) #[] #[]] w fun e w' => WhSd w (wh66 bs) (whE bs.length (pSeal (bs, false)).2) e w' := by
  have hZl : z47.length = 37 := by simp [z47, zB_length]
  have hiz : (Try.prog.info? 47).map (·.size) = some z47.length := by rw [hZl]; exact size47
  have hB0 : Blk ((w.alloc (.cells z47.toArray 47)).alloc (.cells z47.toArray 47)) w.heap.size z47 47 := (Blk.new _ _ _).alloc _
  have hB1 : Blk ((w.alloc (.cells z47.toArray 47)).alloc (.cells z47.toArray 47)) (w.heap.size + 1) z47 47 := Blk.new' _ _ _ _ (by simp)
  have hbe : Below w.heap.size w ((w.alloc (.cells z47.toArray 47)).alloc (.cells z47.toArray 47)) := ((Below.refl _ _).alloc (Nat.le_refl _) _).alloc (by simp) _
  have hone := hid (show ∀ v ∈ z47, v.oneCell' = true from fun v hv => by
    simp only [z47, List.mem_cons] at hv
    rcases hv with rfl | rfl | rfl | rfl | rfl | hv
    · rfl
    · rfl
    · rfl
    · rfl
    · rfl
    · exact mapBy_one _ v hv)
  have HM := hid hM
  have HZ := hid (show ∀ W : World, SdAt W w.heap.size sd0 z47 from fun W => ⟨.slice none 0 0, rfl, ⟨rfl, Or.inl ⟨rfl, rfl⟩⟩⟩)
  obtain ⟨d, s, hds⟩ : ∃ d s, pSeal (bs, false) = (d, s) := ⟨_, _, rfl⟩
  unfold wh66
  rw [hds]
  show Calls _ _ _ _ fun e w' => WhSd w (if whE bs.length s = 0 then d else sd0) (whE bs.length s) e w'
  by_cases hbig : 262144 < bs.length
  · have e1 : (262144 : Int) < (M : Int) := by omega
    rw [show whE bs.length s = 1 by unfold whE; rw [if_pos hbig], if_neg (by decide)]
    clear hB hM hbs hbig hds
    have hr := hB1.range
    have hth := hB0.there 0 z47.length (by omega)
    have hbr := Blk.setCells z47 0 hB0 (by omega)
    rw [show over z47 0 z47 = z47 by simp [over]] at hbr
    have hbf := hid (Below.setCells hbe (b := w.heap.size) (Nat.le_refl _) 0 z47)
    go_enter Try.func66, Try.ntmps66
    go_wp2_with (first
      | ((with_reducible refine wpL_load 47 (w.heap.size + 1) 0 z47 _ ?_ hr Try.underlying47 ?_ hiz ?_); (rfl); (rfl); (simp only [Act.put, List.setIfInBounds_toArray, List.set_cons_zero, List.set_cons_succ]))
      | ((with_reducible refine wpL_store 47 w.heap.size 0 z47 ?_ ?_ hth hiz hone.out ?_); (rfl); (rfl); (simp only [Act.put])))
    exact bodyPost_ret (results_cell_tmp Try.results66 rfl rfl hbr Try.underlying47 rfl hiz) rfl ⟨_, rfl, HZ.out _, hZl, hone.out, hbf.out⟩
  · have e1 : ¬ (262144 : Int) < (M : Int) := by omega
    have hRd := hid (show ∀ W, Below w.heap.size w W → RdAt (W.alloc (.cells #[.slice p M cap, .bool false] 123)) W.heap.size bs false from fun W hW => ⟨_, Blk.new W [.slice p M cap, .bool false] 123, by
      have h1 := Under.of (hB.below hW) (Nat.le_refl W.heap.size)
      exact h1.only (Only.of_below ((Below.refl _ _).alloc (Nat.le_refl _) _))⟩)
    have hcall := hid (show ∀ W rb, RdAt W rb bs false → Calls Try.prog 67 #[.pointer (some ⟨rb, 0, none⟩)] W fun e w' => SldOk W rb d s e w' ∧ d.tag.length = 32 from fun W rb h => by
      have h9 := sealed67 rb (bs, false) W h ⟨hbs, by show bs.length < _; omega⟩
      have ht := pSeal_tag (bs, false)
      rw [hds] at h9 ht
      exact h9.mono fun e w' h => ⟨h, ht⟩)
    have hE0 : whE bs.length s = if s.2 = true ∨ 0 < s.1.length then 11 else 0 := by unfold whE; rw [if_neg hbig]
    rw [hE0]
    obtain ⟨EF, hEF⟩ : ∃ E : Int, E = (if s.2 = true ∨ 0 < s.1.length then 11 else 0) := ⟨_, rfl⟩
    rw [← hEF]
    obtain ⟨DF, hDF⟩ : ∃ D, D = (if EF = 0 then d else sd0) := ⟨_, rfl⟩
    rw [← hDF]
    have HBADF := hid (show (s.2 = true ∨ 0 < s.1.length) → EF = 11 ∧ DF = sd0 from fun h => by rw [if_pos h] at hEF; rw [hEF] at hDF; rw [if_neg (by decide)] at hDF; exact ⟨hEF, hDF⟩)
    have HOKF := hid (show ¬ (s.2 = true ∨ 0 < s.1.length) → EF = 0 ∧ DF = d from fun h => by rw [if_neg h] at hEF; rw [hEF] at hDF; rw [if_pos rfl] at hDF; exact ⟨hEF, hDF⟩)
    clear hB hM hbs hbig hds hE0 hEF hDF
    go_enter Try.func66, Try.ntmps66
    go_upto_region 4 with (fail)
    generalize (w.alloc (.cells z47.toArray 47)).alloc (.cells z47.toArray 47) = W at *
    have hR1 := hid (hRd.out W hbe)
    have hbe1 := hid (hbe.alloc hbe.size (.cells #[.slice p M cap, .bool false] 123))
    have k0 := hid (hB0.alloc (.cells #[.slice p M cap, .bool false] 123))
    have k1 := hid (hB1.alloc (.cells #[.slice p M cap, .bool false] 123))
    have hlt1 := hB1.lt
    clear hRd hB0 hB1
    go_wp2_with fail
    refine Calls.mono (hcall.out _ _ hR1.out) ?_
    rintro e w2 ⟨⟨es, rfl, hA, hR2, hO2⟩, htag⟩
    have hel := hA.length htag
    have honeE := hid hA.one
    have hbb : w.heap.size < (W.alloc (.cells #[.slice p M cap, .bool false] 123)).heap.size := by simp; omega
    obtain ⟨base, hbase⟩ : ∃ b, b = (W.alloc (.cells #[.slice p M cap, .bool false] 123)).heap.size := ⟨_, rfl⟩
    rw [← hbase] at hA hbb
    clear hbase
    have hk0 := hO2.blk k0.out (by omega)
    have hk1 := hO2.blk k1.out (by omega)
    have hbe2 := Only.under hbe1.out hO2 hbe.size hbe1.out.size
    obtain ⟨RB, hRB⟩ : ∃ RB, RB = W.heap.size := ⟨_, rfl⟩
    have hWR : w.heap.size ≤ RB := by rw [hRB]; exact hbe.size
    rw [← hRB] at hR2 hlt1
    simp only [← hRB]
    clear hcall k0 k1 hR1 hbe1 hO2 hRB hbe
    have hi2 : (Try.prog.info? 47).map (·.size) = some es.length := by rw [hel]; exact size47
    have hzl : z47.length = es.length := by rw [hel, hZl]
    have k0 := hid (hk0.alloc (.cells es.toArray 47))
    have k1 := hid (hk1.alloc (.cells es.toArray 47))
    have kn := hid (Blk.new w2 es 47)
    have hR3 := hid (hR2.below ((Below.refl _ _).alloc (Nat.le_refl _) (.cells es.toArray 47)))
    have hbe3 := hid (hbe2.alloc hbe2.size (.cells es.toArray 47))
    have hA3 := hid (hA.below ((Below.refl _ _).alloc (Nat.le_refl _) (.cells es.toArray 47)))
    have hw2 := hR2.lt
    clear hk0 hk1 hR2 hbe2 hA
    go_upto_region 6 with (first
      | ((with_reducible refine wpL_new 47 z47 es zv47 hzl ?_ ?_ hi2 honeE.out ?_); (rfl); (rfl); (simp only [Act.put, List.setIfInBounds_toArray, List.set_cons_zero, List.set_cons_succ])))
    obtain ⟨n2, hn2⟩ : ∃ n2, n2 = w2.heap.size := ⟨_, rfl⟩
    generalize w2.alloc (.cells es.toArray 47) = W3 at *
    rw [← hn2] at kn hw2
    simp only [← hn2]
    clear hn2
    obtain ⟨v, hK, hU⟩ := hR3.out
    obtain ⟨p2, c2, rfl, _⟩ := hU
    have c0 : W3.cell? ⟨RB, 0, none⟩ = some (.slice p2 s.1.length c2) := hK.cell 0
    have c1 : W3.cell? ⟨RB, 1, none⟩ = some (.bool s.2) := hK.cell 1
    have hFIN := hid (show ∀ X : List Value, X.length = z47.length → W3.there w.heap.size 0 X.length ∧ Blk (W3.setCells w.heap.size 0 X) w.heap.size X 47 ∧ Below w.heap.size w (W3.setCells w.heap.size 0 X) from fun X hX => by
      have h1 := Blk.setCells X 0 k0.out (by omega)
      rw [show over z47 0 X = X by simp [over, hX]] at h1
      exact ⟨k0.out.there 0 _ (by omega), h1, Below.setCells hbe3.out (Nat.le_refl _) 0 X⟩)
    have hrn := kn.out.range
    have hr1 := k1.out.range
    obtain ⟨m2, hm2⟩ : ∃ m2, m2 = s.1.length := ⟨_, rfl⟩
    rw [← hm2] at c0
    have HC := hid (show ∀ b, b = s.2 → (s.2 = true ∨ 0 < s.1.length ↔ b = true ∨ 0 < m2) from fun b hb => by rw [hb, hm2])
    obtain ⟨bd, hbd⟩ : ∃ bd, bd = s.2 := ⟨_, rfl⟩
    have HC2 := hid (HC.out bd hbd)
    rw [← hbd] at c1
    clear hm2 hbd HC hK hR3 k0 k1 kn hbe3
    obtain ⟨x1, x2, x3⟩ := hFIN.out z47 rfl
    obtain ⟨y1, y2, y3⟩ := hFIN.out es hzl.symm
    have X3 := hid x3
    have Y3 := hid y3
    have hSL := hid (show SdAt (W3.setCells w.heap.size 0 es) w.heap.size d es from by
      obtain ⟨cv, he, ho⟩ := hA3.out
      exact ⟨cv, he, (ho.setsLow hbb 0 es).mono (by omega)⟩)
    clear hFIN x3 y3
    have hcond : bd = true ∨ (bd = false ∧ 0 < m2) ∨ (bd = false ∧ m2 = 0) := by cases bd <;> simp <;> omega
    rcases hcond with rfl | ⟨rfl, hpos⟩ | ⟨rfl, rfl⟩
    · obtain ⟨q1, q2⟩ := HBADF.out (HC2.out.2 (Or.inl rfl))
      have Q1 := hid q1
      have Q2 := hid q2
      clear q1 q2
      go_wp2_with (first
        | ((with_reducible refine wpL_load 47 (w.heap.size + 1) 0 z47 _ ?_ hr1 Try.underlying47 ?_ hiz ?_); (rfl); (rfl); (simp only [Act.put, List.setIfInBounds_toArray, List.set_cons_zero, List.set_cons_succ]))
        | ((with_reducible refine wpL_store 47 w.heap.size 0 z47 ?_ ?_ x1 hiz hone.out ?_); (rfl); (rfl); (simp only [Act.put])))
      exact bodyPost_ret (results_cell_tmp Try.results66 rfl rfl x2 Try.underlying47 rfl hiz) rfl (by rw [Q1.out, Q2.out]; exact ⟨_, rfl, HZ.out _, hZl, hone.out, X3.out⟩)
    · obtain ⟨q1, q2⟩ := HBADF.out (HC2.out.2 (Or.inr hpos))
      have Q1 := hid q1
      have Q2 := hid q2
      clear q1 q2
      have hpos' : (0 : Int) < (m2 : Int) := by omega
      go_wp2_with (first
        | ((with_reducible refine wpL_load 47 (w.heap.size + 1) 0 z47 _ ?_ hr1 Try.underlying47 ?_ hiz ?_); (rfl); (rfl); (simp only [Act.put, List.setIfInBounds_toArray, List.set_cons_zero, List.set_cons_succ]))
        | ((with_reducible refine wpL_store 47 w.heap.size 0 z47 ?_ ?_ x1 hiz hone.out ?_); (rfl); (rfl); (simp only [Act.put])))
      exact bodyPost_ret (results_cell_tmp Try.results66 rfl rfl x2 Try.underlying47 rfl hiz) rfl (by rw [Q1.out, Q2.out]; exact ⟨_, rfl, HZ.out _, hZl, hone.out, X3.out⟩)
    · obtain ⟨q1, q2⟩ := HOKF.out (fun h => by have := HC2.out.1 h; simp at this)
      have Q1 := hid q1
      have Q2 := hid q2
      clear q1 q2
      go_wp2_with (first
        | ((with_reducible refine wpL_load 47 n2 0 es _ ?_ hrn Try.underlying47 ?_ hi2 ?_); (rfl); (rfl); (simp only [Act.put, List.setIfInBounds_toArray, List.set_cons_zero, List.set_cons_succ]))
        | ((with_reducible refine wpL_store 47 w.heap.size 0 es ?_ ?_ y1 hi2 honeE.out ?_); (rfl); (rfl); (simp only [Act.put])))
      exact bodyPost_ret (results_cell_tmp Try.results66 rfl rfl y2 Try.underlying47 rfl hi2) rfl (by rw [Q1.out, Q2.out]; exact ⟨_, rfl, hSL.out, hel, honeE.out, Y3.out⟩)

def WhBk (w : World) (d : Bk) (E : Int) (e : Ending) (w' : World) : Prop := ∃ es, e = .returned (.tuple #[.agg es.toArray, .int .i64 E]) ∧ BkAt w' w.heap.size d es ∧ es.length = 98 ∧ (∀ v ∈ es, v.oneCell' = true) ∧ Below w.heap.size w w'
def wh70 (bs : List Nat) : Bk := if whE bs.length (pBlk (bs, false)).2 = 0 then (pBlk (bs, false)).1 else bk0
set_option maxRecDepth 100000 in
set_option maxHeartbeats 8000000 in
theorem readWhole70 (bs : List Nat) (hbs : Byt bs) (p : Option Addr) (M cap : Nat) (w : World) (hM : M = bs.length) (hB : BytesAt w (.slice p M cap) bs) :
    Calls Try.prog 70 #[.slice p M cap, .func (.func 71) #[] #[]] w fun e w' => WhBk w (wh70 bs) (whE bs.length (pBlk (bs, false)).2) e w' := by
  have hZl : z39.length = 98 := bkL_length _ _ _ _ _ (zB_length 32) (zB_length 32) (zB_length 32)
  have hiz : (Try.prog.info? 39).map (·.size) = some z39.length := by rw [hZl]; exact size39
  have hB0 : Blk ((w.alloc (.cells z39.toArray 39)).alloc (.cells z39.toArray 39)) w.heap.size z39 39 := (Blk.new _ _ _).alloc _
  have hB1 : Blk ((w.alloc (.cells z39.toArray 39)).alloc (.cells z39.toArray 39)) (w.heap.size + 1) z39 39 := Blk.new' _ _ _ _ (by simp)
  have hbe : Below w.heap.size w ((w.alloc (.cells z39.toArray 39)).alloc (.cells z39.toArray 39)) := ((Below.refl _ _).alloc (Nat.le_refl _) _).alloc (by simp) _
  have hone := hid (show ∀ v ∈ z39, v.oneCell' = true from fun v hv => by
    simp only [z39, bkL, List.mem_cons, List.mem_append, List.not_mem_nil, or_false] at hv
    rcases hv with rfl | hv | hv | hv | rfl
    · rfl
    · exact mapBy_one _ v hv
    · exact mapBy_one _ v hv
    · exact mapBy_one _ v hv
    · rfl)
  have HM := hid hM
  have HZ := hid (show ∀ W : World, BkAt W w.heap.size bk0 z39 from fun W => ⟨.slice none 0 0, rfl, OwnS.nil _ _⟩)
  obtain ⟨d, s, hds⟩ : ∃ d s, pBlk (bs, false) = (d, s) := ⟨_, _, rfl⟩
  unfold wh70
  rw [hds]
  show Calls _ _ _ _ fun e w' => WhBk w (if whE bs.length s = 0 then d else bk0) (whE bs.length s) e w'
  by_cases hbig : 262144 < bs.length
  · have e1 : (262144 : Int) < (M : Int) := by omega
    rw [show whE bs.length s = 1 by unfold whE; rw [if_pos hbig], if_neg (by decide)]
    clear hB hM hbs hbig hds
    have hr := hB1.range
    have hth := hB0.there 0 z39.length (by omega)
    have hbr := Blk.setCells z39 0 hB0 (by omega)
    rw [show over z39 0 z39 = z39 by simp [over]] at hbr
    have hbf := hid (Below.setCells hbe (b := w.heap.size) (Nat.le_refl _) 0 z39)
    go_enter Try.func70, Try.ntmps70
    go_wp2_with (first
      | ((with_reducible refine wpL_load 39 (w.heap.size + 1) 0 z39 _ ?_ hr Try.underlying39 ?_ hiz ?_); (rfl); (rfl); (simp only [Act.put, List.setIfInBounds_toArray, List.set_cons_zero, List.set_cons_succ]))
      | ((with_reducible refine wpL_store 39 w.heap.size 0 z39 ?_ ?_ hth hiz hone.out ?_); (rfl); (rfl); (simp only [Act.put])))
    exact bodyPost_ret (results_cell_tmp Try.results70 rfl rfl hbr Try.underlying39 rfl hiz) rfl ⟨_, rfl, HZ.out _, hZl, hone.out, hbf.out⟩
  · have e1 : ¬ (262144 : Int) < (M : Int) := by omega
    have hRd := hid (show ∀ W, Below w.heap.size w W → RdAt (W.alloc (.cells #[.slice p M cap, .bool false] 123)) W.heap.size bs false from fun W hW => ⟨_, Blk.new W [.slice p M cap, .bool false] 123, by
      have h1 := Under.of (hB.below hW) (Nat.le_refl W.heap.size)
      exact h1.only (Only.of_below ((Below.refl _ _).alloc (Nat.le_refl _) _))⟩)
    have hcall := hid (show ∀ W rb, RdAt W rb bs false → Calls Try.prog 71 #[.pointer (some ⟨rb, 0, none⟩)] W fun e w' => BlkOk W rb d s e w' ∧ BkFit d from fun W rb h => by
      have h9 := block71 rb (bs, false) W h ⟨hbs, by show bs.length < _; omega⟩
      have ht := pBlk_bk (bs, false)
      rw [hds] at h9 ht
      exact h9.mono fun e w' h => ⟨h, ht⟩)
    have hE0 : whE bs.length s = if s.2 = true ∨ 0 < s.1.length then 11 else 0 := by unfold whE; rw [if_neg hbig]
    rw [hE0]
    obtain ⟨EF, hEF⟩ : ∃ E : Int, E = (if s.2 = true ∨ 0 < s.1.length then 11 else 0) := ⟨_, rfl⟩
    rw [← hEF]
    obtain ⟨DF, hDF⟩ : ∃ D, D = (if EF = 0 then d else bk0) := ⟨_, rfl⟩
    rw [← hDF]
    have HBADF := hid (show (s.2 = true ∨ 0 < s.1.length) → EF = 11 ∧ DF = bk0 from fun h => by rw [if_pos h] at hEF; rw [hEF] at hDF; rw [if_neg (by decide)] at hDF; exact ⟨hEF, hDF⟩)
    have HOKF := hid (show ¬ (s.2 = true ∨ 0 < s.1.length) → EF = 0 ∧ DF = d from fun h => by rw [if_neg h] at hEF; rw [hEF] at hDF; rw [if_pos rfl] at hDF; exact ⟨hEF, hDF⟩)
    clear hB hM hbs hbig hds hE0 hEF hDF
    go_enter Try.func70, Try.ntmps70
    go_upto_region 4 with (fail)
    generalize (w.alloc (.cells z39.toArray 39)).alloc (.cells z39.toArray 39) = W at *
    have hR1 := hid (hRd.out W hbe)
    have hbe1 := hid (hbe.alloc hbe.size (.cells #[.slice p M cap, .bool false] 123))
    have k0 := hid (hB0.alloc (.cells #[.slice p M cap, .bool false] 123))
    have k1 := hid (hB1.alloc (.cells #[.slice p M cap, .bool false] 123))
    have hlt1 := hB1.lt
    clear hRd hB0 hB1
    go_wp2_with fail
    refine Calls.mono (hcall.out _ _ hR1.out) ?_
    rintro e w2 ⟨⟨es, rfl, hA, hR2, hO2⟩, htag⟩
    have hel := hA.length htag
    have honeE := hid hA.one
    have hbb : w.heap.size < (W.alloc (.cells #[.slice p M cap, .bool false] 123)).heap.size := by simp; omega
    obtain ⟨base, hbase⟩ : ∃ b, b = (W.alloc (.cells #[.slice p M cap, .bool false] 123)).heap.size := ⟨_, rfl⟩
    rw [← hbase] at hA hbb
    clear hbase
    have hk0 := hO2.blk k0.out (by omega)
    have hk1 := hO2.blk k1.out (by omega)
    have hbe2 := Only.under hbe1.out hO2 hbe.size hbe1.out.size
    obtain ⟨RB, hRB⟩ : ∃ RB, RB = W.heap.size := ⟨_, rfl⟩
    have hWR : w.heap.size ≤ RB := by rw [hRB]; exact hbe.size
    rw [← hRB] at hR2 hlt1
    simp only [← hRB]
    clear hcall k0 k1 hR1 hbe1 hO2 hRB hbe
    have hi2 : (Try.prog.info? 39).map (·.size) = some es.length := by rw [hel]; exact size39
    have hzl : z39.length = es.length := by rw [hel, hZl]
    have k0 := hid (hk0.alloc (.cells es.toArray 39))
    have k1 := hid (hk1.alloc (.cells es.toArray 39))
    have kn := hid (Blk.new w2 es 39)
    have hR3 := hid (hR2.below ((Below.refl _ _).alloc (Nat.le_refl _) (.cells es.toArray 39)))
    have hbe3 := hid (hbe2.alloc hbe2.size (.cells es.toArray 39))
    have hA3 := hid (hA.below ((Below.refl _ _).alloc (Nat.le_refl _) (.cells es.toArray 39)))
    have hw2 := hR2.lt
    clear hk0 hk1 hR2 hbe2 hA
    go_upto_region 6 with (first
      | ((with_reducible refine wpL_new 39 z39 es zv39 hzl ?_ ?_ hi2 honeE.out ?_); (rfl); (rfl); (simp only [Act.put, List.setIfInBounds_toArray, List.set_cons_zero, List.set_cons_succ])))
    obtain ⟨n2, hn2⟩ : ∃ n2, n2 = w2.heap.size := ⟨_, rfl⟩
    generalize w2.alloc (.cells es.toArray 39) = W3 at *
    rw [← hn2] at kn hw2
    simp only [← hn2]
    clear hn2
    obtain ⟨v, hK, hU⟩ := hR3.out
    obtain ⟨p2, c2, rfl, _⟩ := hU
    have c0 : W3.cell? ⟨RB, 0, none⟩ = some (.slice p2 s.1.length c2) := hK.cell 0
    have c1 : W3.cell? ⟨RB, 1, none⟩ = some (.bool s.2) := hK.cell 1
    have hFIN := hid (show ∀ X : List Value, X.length = z39.length → W3.there w.heap.size 0 X.length ∧ Blk (W3.setCells w.heap.size 0 X) w.heap.size X 39 ∧ Below w.heap.size w (W3.setCells w.heap.size 0 X) from fun X hX => by
      have h1 := Blk.setCells X 0 k0.out (by omega)
      rw [show over z39 0 X = X by simp [over, hX]] at h1
      exact ⟨k0.out.there 0 _ (by omega), h1, Below.setCells hbe3.out (Nat.le_refl _) 0 X⟩)
    have hrn := kn.out.range
    have hr1 := k1.out.range
    obtain ⟨m2, hm2⟩ : ∃ m2, m2 = s.1.length := ⟨_, rfl⟩
    rw [← hm2] at c0
    have HC := hid (show ∀ b, b = s.2 → (s.2 = true ∨ 0 < s.1.length ↔ b = true ∨ 0 < m2) from fun b hb => by rw [hb, hm2])
    obtain ⟨bd, hbd⟩ : ∃ bd, bd = s.2 := ⟨_, rfl⟩
    have HC2 := hid (HC.out bd hbd)
    rw [← hbd] at c1
    clear hm2 hbd HC hK hR3 k0 k1 kn hbe3
    obtain ⟨x1, x2, x3⟩ := hFIN.out z39 rfl
    obtain ⟨y1, y2, y3⟩ := hFIN.out es hzl.symm
    have X3 := hid x3
    have Y3 := hid y3
    have hSL := hid (show BkAt (W3.setCells w.heap.size 0 es) w.heap.size d es from by
      obtain ⟨cv, he, ho⟩ := hA3.out
      exact ⟨cv, he, (ho.setsLow hbb 0 es).mono (by omega)⟩)
    clear hFIN x3 y3
    have hcond : bd = true ∨ (bd = false ∧ 0 < m2) ∨ (bd = false ∧ m2 = 0) := by cases bd <;> simp <;> omega
    rcases hcond with rfl | ⟨rfl, hpos⟩ | ⟨rfl, rfl⟩
    · obtain ⟨q1, q2⟩ := HBADF.out (HC2.out.2 (Or.inl rfl))
      have Q1 := hid q1
      have Q2 := hid q2
      clear q1 q2
      go_wp2_with (first
        | ((with_reducible refine wpL_load 39 (w.heap.size + 1) 0 z39 _ ?_ hr1 Try.underlying39 ?_ hiz ?_); (rfl); (rfl); (simp only [Act.put, List.setIfInBounds_toArray, List.set_cons_zero, List.set_cons_succ]))
        | ((with_reducible refine wpL_store 39 w.heap.size 0 z39 ?_ ?_ x1 hiz hone.out ?_); (rfl); (rfl); (simp only [Act.put])))
      exact bodyPost_ret (results_cell_tmp Try.results70 rfl rfl x2 Try.underlying39 rfl hiz) rfl (by rw [Q1.out, Q2.out]; exact ⟨_, rfl, HZ.out _, hZl, hone.out, X3.out⟩)
    · obtain ⟨q1, q2⟩ := HBADF.out (HC2.out.2 (Or.inr hpos))
      have Q1 := hid q1
      have Q2 := hid q2
      clear q1 q2
      have hpos' : (0 : Int) < (m2 : Int) := by omega
      go_wp2_with (first
        | ((with_reducible refine wpL_load 39 (w.heap.size + 1) 0 z39 _ ?_ hr1 Try.underlying39 ?_ hiz ?_); (rfl); (rfl); (simp only [Act.put, List.setIfInBounds_toArray, List.set_cons_zero, List.set_cons_succ]))
        | ((with_reducible refine wpL_store 39 w.heap.size 0 z39 ?_ ?_ x1 hiz hone.out ?_); (rfl); (rfl); (simp only [Act.put])))
      exact bodyPost_ret (results_cell_tmp Try.results70 rfl rfl x2 Try.underlying39 rfl hiz) rfl (by rw [Q1.out, Q2.out]; exact ⟨_, rfl, HZ.out _, hZl, hone.out, X3.out⟩)
    · obtain ⟨q1, q2⟩ := HOKF.out (fun h => by have := HC2.out.1 h; simp at this)
      have Q1 := hid q1
      have Q2 := hid q2
      clear q1 q2
      go_wp2_with (first
        | ((with_reducible refine wpL_load 39 n2 0 es _ ?_ hrn Try.underlying39 ?_ hi2 ?_); (rfl); (rfl); (simp only [Act.put, List.setIfInBounds_toArray, List.set_cons_zero, List.set_cons_succ]))
        | ((with_reducible refine wpL_store 39 w.heap.size 0 es ?_ ?_ y1 hi2 honeE.out ?_); (rfl); (rfl); (simp only [Act.put])))
      exact bodyPost_ret (results_cell_tmp Try.results70 rfl rfl y2 Try.underlying39 rfl hi2) rfl (by rw [Q1.out, Q2.out]; exact ⟨_, rfl, hSL.out, hel, honeE.out, Y3.out⟩)

def WhRs (w : World) (d : Rs) (E : Int) (e : Ending) (w' : World) : Prop := ∃ es, e = .returned (.tuple #[.agg es.toArray, .int .i64 E]) ∧ (es = Rs.cells d) ∧ es.length = 67 ∧ (∀ v ∈ es, v.oneCell' = true) ∧ Below w.heap.size w w'
def wh73 (bs : List Nat) : Rs := if whE bs.length (pRes (bs, false)).2 = 0 then (pRes (bs, false)).1 else rs0
set_option maxRecDepth 100000 in
set_option maxHeartbeats 8000000 in
theorem readWhole73 (bs : List Nat) (hbs : Byt bs) (p : Option Addr) (M cap : Nat) (w : World) (hM : M = bs.length) (hB : BytesAt w (.slice p M cap) bs) :
    Calls Try.prog 73 #[.slice p M cap, .func (.func 74) #[] #[]] w fun e w' => WhRs w (wh73 bs) (whE bs.length (pRes (bs, false)).2) e w' := by
  have hZl : z41.length = 67 := rsC_length _ _ _ _ _ (zB_length 32) (zB_length 32)
  have hiz : (Try.prog.info? 41).map (·.size) = some z41.length := by rw [hZl]; exact size41
  have hB0 : Blk ((w.alloc (.cells z41.toArray 41)).alloc (.cells z41.toArray 41)) w.heap.size z41 41 := (Blk.new _ _ _).alloc _
  have hB1 : Blk ((w.alloc (.cells z41.toArray 41)).alloc (.cells z41.toArray 41)) (w.heap.size + 1) z41 41 := Blk.new' _ _ _ _ (by simp)
  have hbe : Below w.heap.size w ((w.alloc (.cells z41.toArray 41)).alloc (.cells z41.toArray 41)) := ((Below.refl _ _).alloc (Nat.le_refl _) _).alloc (by simp) _
  have hone := hid (show ∀ v ∈ z41, v.oneCell' = true from fun v hv => by
    simp only [z41, rsC, List.mem_cons, List.mem_append] at hv
    rcases hv with rfl | rfl | rfl | hv | hv
    · rfl
    · rfl
    · rfl
    · exact mapBy_one _ v hv
    · exact mapBy_one _ v hv)
  have HM := hid hM
  have HZ := hid (show ∀ W : World, (z41 = Rs.cells rs0) from fun _ => rfl)
  obtain ⟨d, s, hds⟩ : ∃ d s, pRes (bs, false) = (d, s) := ⟨_, _, rfl⟩
  unfold wh73
  rw [hds]
  show Calls _ _ _ _ fun e w' => WhRs w (if whE bs.length s = 0 then d else rs0) (whE bs.length s) e w'
  by_cases hbig : 262144 < bs.length
  · have e1 : (262144 : Int) < (M : Int) := by omega
    rw [show whE bs.length s = 1 by unfold whE; rw [if_pos hbig], if_neg (by decide)]
    clear hB hM hbs hbig hds
    have hr := hB1.range
    have hth := hB0.there 0 z41.length (by omega)
    have hbr := Blk.setCells z41 0 hB0 (by omega)
    rw [show over z41 0 z41 = z41 by simp [over]] at hbr
    have hbf := hid (Below.setCells hbe (b := w.heap.size) (Nat.le_refl _) 0 z41)
    go_enter Try.func73, Try.ntmps73
    go_wp2_with (first
      | ((with_reducible refine wpL_load 41 (w.heap.size + 1) 0 z41 _ ?_ hr Try.underlying41 ?_ hiz ?_); (rfl); (rfl); (simp only [Act.put, List.setIfInBounds_toArray, List.set_cons_zero, List.set_cons_succ]))
      | ((with_reducible refine wpL_store 41 w.heap.size 0 z41 ?_ ?_ hth hiz hone.out ?_); (rfl); (rfl); (simp only [Act.put])))
    exact bodyPost_ret (results_cell_tmp Try.results73 rfl rfl hbr Try.underlying41 rfl hiz) rfl ⟨_, rfl, HZ.out w, hZl, hone.out, hbf.out⟩
  · have e1 : ¬ (262144 : Int) < (M : Int) := by omega
    have hRd := hid (show ∀ W, Below w.heap.size w W → RdAt (W.alloc (.cells #[.slice p M cap, .bool false] 123)) W.heap.size bs false from fun W hW => ⟨_, Blk.new W [.slice p M cap, .bool false] 123, by
      have h1 := Under.of (hB.below hW) (Nat.le_refl W.heap.size)
      exact h1.only (Only.of_below ((Below.refl _ _).alloc (Nat.le_refl _) _))⟩)
    have hcall := hid (show ∀ W rb, RdAt W rb bs false → Calls Try.prog 74 #[.pointer (some ⟨rb, 0, none⟩)] W fun e w' => ∃ es : List Value, e = .returned (.agg es.toArray) ∧ es = Rs.cells d ∧ es.length = 67 ∧ (∀ v ∈ es, v.oneCell' = true) ∧ RdAt w' rb s.1 s.2 ∧ Only rb W w' from fun W rb h => by
      have h9 := result74 rb (bs, false) W h ⟨hbs, by show bs.length < _; omega⟩
      have ht := pRes_len (bs, false)
      rw [hds] at h9 ht
      exact h9.mono fun e w' ⟨h1, h2, h3⟩ => ⟨_, h1, rfl, ht.1, ht.2, h2, h3⟩)
    have hE0 : whE bs.length s = if s.2 = true ∨ 0 < s.1.length then 11 else 0 := by unfold whE; rw [if_neg hbig]
    rw [hE0]
    obtain ⟨EF, hEF⟩ : ∃ E : Int, E = (if s.2 = true ∨ 0 < s.1.length then 11 else 0) := ⟨_, rfl⟩
    rw [← hEF]
    obtain ⟨DF, hDF⟩ : ∃ D, D = (if EF = 0 then d else rs0) := ⟨_, rfl⟩
    rw [← hDF]
    have HBADF := hid (show (s.2 = true ∨ 0 < s.1.length) → EF = 11 ∧ DF = rs0 from fun h => by rw [if_pos h] at hEF; rw [hEF] at hDF; rw [if_neg (by decide)] at hDF; exact ⟨hEF, hDF⟩)
    have HOKF := hid (show ¬ (s.2 = true ∨ 0 < s.1.length) → EF = 0 ∧ DF = d from fun h => by rw [if_neg h] at hEF; rw [hEF] at hDF; rw [if_pos rfl] at hDF; exact ⟨hEF, hDF⟩)
    clear hB hM hbs hbig hds hE0 hEF hDF
    go_enter Try.func73, Try.ntmps73
    go_upto_region 4 with (fail)
    generalize (w.alloc (.cells z41.toArray 41)).alloc (.cells z41.toArray 41) = W at *
    have hR1 := hid (hRd.out W hbe)
    have hbe1 := hid (hbe.alloc hbe.size (.cells #[.slice p M cap, .bool false] 123))
    have k0 := hid (hB0.alloc (.cells #[.slice p M cap, .bool false] 123))
    have k1 := hid (hB1.alloc (.cells #[.slice p M cap, .bool false] 123))
    have hlt1 := hB1.lt
    clear hRd hB0 hB1
    go_wp2_with fail
    refine Calls.mono (hcall.out _ _ hR1.out) ?_
    rintro e w2 ⟨es, rfl, hA, hel, hone2, hR2, hO2⟩
    have honeE := hid hone2
    clear hone2
    have hk0 := hO2.blk k0.out (by omega)
    have hk1 := hO2.blk k1.out (by omega)
    have hbe2 := Only.under hbe1.out hO2 hbe.size hbe1.out.size
    obtain ⟨RB, hRB⟩ : ∃ RB, RB = W.heap.size := ⟨_, rfl⟩
    have hWR : w.heap.size ≤ RB := by rw [hRB]; exact hbe.size
    rw [← hRB] at hR2 hlt1
    simp only [← hRB]
    clear hcall k0 k1 hR1 hbe1 hO2 hRB hbe
    have hi2 : (Try.prog.info? 41).map (·.size) = some es.length := by rw [hel]; exact size41
    have hzl : z41.length = es.length := by rw [hel, hZl]
    have k0 := hid (hk0.alloc (.cells es.toArray 41))
    have k1 := hid (hk1.alloc (.cells es.toArray 41))
    have kn := hid (Blk.new w2 es 41)
    have hR3 := hid (hR2.below ((Below.refl _ _).alloc (Nat.le_refl _) (.cells es.toArray 41)))
    have hbe3 := hid (hbe2.alloc hbe2.size (.cells es.toArray 41))
    have hA3 := hid (hA)
    have hw2 := hR2.lt
    clear hk0 hk1 hR2 hbe2 hA
    go_upto_region 6 with (first
      | ((with_reducible refine wpL_new 41 z41 es zv41 hzl ?_ ?_ hi2 honeE.out ?_); (rfl); (rfl); (simp only [Act.put, List.setIfInBounds_toArray, List.set_cons_zero, List.set_cons_succ])))
    obtain ⟨n2, hn2⟩ : ∃ n2, n2 = w2.heap.size := ⟨_, rfl⟩
    generalize w2.alloc (.cells es.toArray 41) = W3 at *
    rw [← hn2] at kn hw2
    simp only [← hn2]
    clear hn2
    obtain ⟨v, hK, hU⟩ := hR3.out
    obtain ⟨p2, c2, rfl, _⟩ := hU
    have c0 : W3.cell? ⟨RB, 0, none⟩ = some (.slice p2 s.1.length c2) := hK.cell 0
    have c1 : W3.cell? ⟨RB, 1, none⟩ = some (.bool s.2) := hK.cell 1
    have hFIN := hid (show ∀ X : List Value, X.length = z41.length → W3.there w.heap.size 0 X.length ∧ Blk (W3.setCells w.heap.size 0 X) w.heap.size X 41 ∧ Below w.heap.size w (W3.setCells w.heap.size 0 X) from fun X hX => by
      have h1 := Blk.setCells X 0 k0.out (by omega)
      rw [show over z41 0 X = X by simp [over, hX]] at h1
      exact ⟨k0.out.there 0 _ (by omega), h1, Below.setCells hbe3.out (Nat.le_refl _) 0 X⟩)
    have hrn := kn.out.range
    have hr1 := k1.out.range
    obtain ⟨m2, hm2⟩ : ∃ m2, m2 = s.1.length := ⟨_, rfl⟩
    rw [← hm2] at c0
    have HC := hid (show ∀ b, b = s.2 → (s.2 = true ∨ 0 < s.1.length ↔ b = true ∨ 0 < m2) from fun b hb => by rw [hb, hm2])
    obtain ⟨bd, hbd⟩ : ∃ bd, bd = s.2 := ⟨_, rfl⟩
    have HC2 := hid (HC.out bd hbd)
    rw [← hbd] at c1
    clear hm2 hbd HC hK hR3 k0 k1 kn hbe3
    obtain ⟨x1, x2, x3⟩ := hFIN.out z41 rfl
    obtain ⟨y1, y2, y3⟩ := hFIN.out es hzl.symm
    have X3 := hid x3
    have Y3 := hid y3
    have hSL := hid (show es = Rs.cells d from hA3.out)
    clear hFIN x3 y3
    have hcond : bd = true ∨ (bd = false ∧ 0 < m2) ∨ (bd = false ∧ m2 = 0) := by cases bd <;> simp <;> omega
    rcases hcond with rfl | ⟨rfl, hpos⟩ | ⟨rfl, rfl⟩
    · obtain ⟨q1, q2⟩ := HBADF.out (HC2.out.2 (Or.inl rfl))
      have Q1 := hid q1
      have Q2 := hid q2
      clear q1 q2
      go_wp2_with (first
        | ((with_reducible refine wpL_load 41 (w.heap.size + 1) 0 z41 _ ?_ hr1 Try.underlying41 ?_ hiz ?_); (rfl); (rfl); (simp only [Act.put, List.setIfInBounds_toArray, List.set_cons_zero, List.set_cons_succ]))
        | ((with_reducible refine wpL_store 41 w.heap.size 0 z41 ?_ ?_ x1 hiz hone.out ?_); (rfl); (rfl); (simp only [Act.put])))
      exact bodyPost_ret (results_cell_tmp Try.results73 rfl rfl x2 Try.underlying41 rfl hiz) rfl (by rw [Q1.out, Q2.out]; exact ⟨_, rfl, HZ.out w, hZl, hone.out, X3.out⟩)
    · obtain ⟨q1, q2⟩ := HBADF.out (HC2.out.2 (Or.inr hpos))
      have Q1 := hid q1
      have Q2 := hid q2
      clear q1 q2
      have hpos' : (0 : Int) < (m2 : Int) := by omega
      go_wp2_with (first
        | ((with_reducible refine wpL_load 41 (w.heap.size + 1) 0 z41 _ ?_ hr1 Try.underlying41 ?_ hiz ?_); (rfl); (rfl); (simp only [Act.put, List.setIfInBounds_toArray, List.set_cons_zero, List.set_cons_succ]))
        | ((with_reducible refine wpL_store 41 w.heap.size 0 z41 ?_ ?_ x1 hiz hone.out ?_); (rfl); (rfl); (simp only [Act.put])))
      exact bodyPost_ret (results_cell_tmp Try.results73 rfl rfl x2 Try.underlying41 rfl hiz) rfl (by rw [Q1.out, Q2.out]; exact ⟨_, rfl, HZ.out w, hZl, hone.out, X3.out⟩)
    · obtain ⟨q1, q2⟩ := HOKF.out (fun h => by have := HC2.out.1 h; simp at this)
      have Q1 := hid q1
      have Q2 := hid q2
      clear q1 q2
      go_wp2_with (first
        | ((with_reducible refine wpL_load 41 n2 0 es _ ?_ hrn Try.underlying41 ?_ hi2 ?_); (rfl); (rfl); (simp only [Act.put, List.setIfInBounds_toArray, List.set_cons_zero, List.set_cons_succ]))
        | ((with_reducible refine wpL_store 41 w.heap.size 0 es ?_ ?_ y1 hi2 honeE.out ?_); (rfl); (rfl); (simp only [Act.put])))
      exact bodyPost_ret (results_cell_tmp Try.results73 rfl rfl y2 Try.underlying41 rfl hi2) rfl (by rw [Q1.out, Q2.out]; exact ⟨_, rfl, hSL.out, hel, honeE.out, Y3.out⟩)

set_option maxRecDepth 100000 in
set_option maxHeartbeats 4000000 in
theorem read32f (bs : List Nat) (hbs : Byt bs) (p : Option Addr) (M cap : Nat) (w : World) (hM : M = bs.length) (hB : BytesAt w (.slice p M cap) bs) :
    Calls Try.prog 32 #[.slice p M cap] w fun e w' => WhSd w (wh66 bs) (whE bs.length (pSeal (bs, false)).2) e w' := by
  have hb0 : Below w.heap.size w (w.alloc (.cells z47.toArray 47)) := (Below.refl _ _).alloc (Nat.le_refl _) _
  have hc := hid (readWhole66 bs hbs p M cap (w.alloc (.cells z47.toArray 47)) hM (hB.below hb0))
  have hK := hid (Blk.new w z47 47)
  have HB0 := hid hb0
  clear hB hbs hM hb0
  generalize wh66 bs = d at *
  generalize whE bs.length (pSeal (bs, false)).2 = E at *
  go_enter Try.func32, Try.ntmps32
  go_wp2_with fail
  refine Calls.mono hc.out ?_
  rintro e w1 ⟨es, rfl, hA, hel, hone, hb1⟩
  have hlt := hK.out.lt
  have hK1 := hK.out.below hb1 hlt
  have hi2 : (Try.prog.info? 47).map (·.size) = some es.length := by rw [hel]; exact size47
  have hzl : z47.length = es.length := by rw [hel]; exact by simp [z47, zB_length]
  have hth := hK1.there 0 es.length (by omega)
  have hbr := Blk.setCells es 0 hK1 (by omega)
  rw [show over z47 0 es = es by simp [over, hzl]] at hbr
  have hbf := hid (Below.setCells (HB0.out.trans (hb1.mono HB0.out.size)) (b := w.heap.size) (Nat.le_refl _) 0 es)
  have honeE := hid hone
  have hSL := hid (show SdAt (w1.setCells w.heap.size 0 es) w.heap.size d es from by
    obtain ⟨cv, he, ho⟩ := hA
    exact ⟨cv, he, (ho.setsLow hlt 0 es).mono (by omega)⟩)
  clear hb1 hA hK hc HB0 hone
  go_wp2_with (first
    | ((with_reducible refine wpL_store 47 w.heap.size 0 es ?_ ?_ hth hi2 honeE.out ?_); (rfl); (rfl); (simp only [Act.put])))
  exact bodyPost_ret (results_cell_tmp Try.results32 rfl rfl hbr Try.underlying47 rfl hi2) rfl ⟨_, rfl, hSL.out, hel, honeE.out, hbf.out⟩

set_option maxRecDepth 100000 in
set_option maxHeartbeats 4000000 in
theorem read34f (bs : List Nat) (hbs : Byt bs) (p : Option Addr) (M cap : Nat) (w : World) (hM : M = bs.length) (hB : BytesAt w (.slice p M cap) bs) :
    Calls Try.prog 34 #[.slice p M cap] w fun e w' => WhBk w (wh70 bs) (whE bs.length (pBlk (bs, false)).2) e w' := by
  have hb0 : Below w.heap.size w (w.alloc (.cells z39.toArray 39)) := (Below.refl _ _).alloc (Nat.le_refl _) _
  have hc := hid (readWhole70 bs hbs p M cap (w.alloc (.cells z39.toArray 39)) hM (hB.below hb0))
  have hK := hid (Blk.new w z39 39)
  have HB0 := hid hb0
  clear hB hbs hM hb0
  generalize wh70 bs = d at *
  generalize whE bs.length (pBlk (bs, false)).2 = E at *
  go_enter Try.func34, Try.ntmps34
  go_wp2_with fail
  refine Calls.mono hc.out ?_
  rintro e w1 ⟨es, rfl, hA, hel, hone, hb1⟩
  have hlt := hK.out.lt
  have hK1 := hK.out.below hb1 hlt
  have hi2 : (Try.prog.info? 39).map (·.size) = some es.length := by rw [hel]; exact size39
  have hzl : z39.length = es.length := by rw [hel]; exact bkL_length _ _ _ _ _ (zB_length 32) (zB_length 32) (zB_length 32)
  have hth := hK1.there 0 es.length (by omega)
  have hbr := Blk.setCells es 0 hK1 (by omega)
  rw [show over z39 0 es = es by simp [over, hzl]] at hbr
  have hbf := hid (Below.setCells (HB0.out.trans (hb1.mono HB0.out.size)) (b := w.heap.size) (Nat.le_refl _) 0 es)
  have honeE := hid hone
  have hSL := hid (show BkAt (w1.setCells w.heap.size 0 es) w.heap.size d es from by
    obtain ⟨cv, he, ho⟩ := hA
    exact ⟨cv, he, (ho.setsLow hlt 0 es).mono (by omega)⟩)
  clear hb1 hA hK hc HB0 hone
  go_wp2_with (first
    | ((with_reducible refine wpL_store 39 w.heap.size 0 es ?_ ?_ hth hi2 honeE.out ?_); (rfl); (rfl); (simp only [Act.put])))
  exact bodyPost_ret (results_cell_tmp Try.results34 rfl rfl hbr Try.underlying39 rfl hi2) rfl ⟨_, rfl, hSL.out, hel, honeE.out, hbf.out⟩

set_option maxRecDepth 100000 in
set_option maxHeartbeats 4000000 in
theorem read36f (bs : List Nat) (hbs : Byt bs) (p : Option Addr) (M cap : Nat) (w : World) (hM : M = bs.length) (hB : BytesAt w (.slice p M cap) bs) :
    Calls Try.prog 36 #[.slice p M cap] w fun e w' => WhRs w (wh73 bs) (whE bs.length (pRes (bs, false)).2) e w' := by
  have hb0 : Below w.heap.size w (w.alloc (.cells z41.toArray 41)) := (Below.refl _ _).alloc (Nat.le_refl _) _
  have hc := hid (readWhole73 bs hbs p M cap (w.alloc (.cells z41.toArray 41)) hM (hB.below hb0))
  have hK := hid (Blk.new w z41 41)
  have HB0 := hid hb0
  clear hB hbs hM hb0
  generalize wh73 bs = d at *
  generalize whE bs.length (pRes (bs, false)).2 = E at *
  go_enter Try.func36, Try.ntmps36
  go_wp2_with fail
  refine Calls.mono hc.out ?_
  rintro e w1 ⟨es, rfl, hA, hel, hone, hb1⟩
  have hlt := hK.out.lt
  have hK1 := hK.out.below hb1 hlt
  have hi2 : (Try.prog.info? 41).map (·.size) = some es.length := by rw [hel]; exact size41
  have hzl : z41.length = es.length := by rw [hel]; exact rsC_length _ _ _ _ _ (zB_length 32) (zB_length 32)
  have hth := hK1.there 0 es.length (by omega)
  have hbr := Blk.setCells es 0 hK1 (by omega)
  rw [show over z41 0 es = es by simp [over, hzl]] at hbr
  have hbf := hid (Below.setCells (HB0.out.trans (hb1.mono HB0.out.size)) (b := w.heap.size) (Nat.le_refl _) 0 es)
  have honeE := hid hone
  have hSL := hid (show es = Rs.cells d from hA)
  clear hb1 hA hK hc HB0 hone
  go_wp2_with (first
    | ((with_reducible refine wpL_store 41 w.heap.size 0 es ?_ ?_ hth hi2 honeE.out ?_); (rfl); (rfl); (simp only [Act.put])))
  exact bodyPost_ret (results_cell_tmp Try.results36 rfl rfl hbr Try.underlying41 rfl hi2) rfl ⟨_, rfl, hSL.out, hel, honeE.out, hbf.out⟩
theorem read32 (bs : List Nat) (hbs : Byt bs) (p : Option Addr) (M cap : Nat) (w : World) (hM : M = bs.length) (hB : BytesAt w (.slice p M cap) bs) (_ : M < 100000000000) :
    Calls Try.prog 32 #[.slice p M cap] w fun e w' => WhSd w (wh66 bs) (whE bs.length (pSeal (bs, false)).2) e w' := read32f bs hbs p M cap w hM hB
theorem read34 (bs : List Nat) (hbs : Byt bs) (p : Option Addr) (M cap : Nat) (w : World) (hM : M = bs.length) (hB : BytesAt w (.slice p M cap) bs) (_ : M < 100000000000) :
    Calls Try.prog 34 #[.slice p M cap] w fun e w' => WhBk w (wh70 bs) (whE bs.length (pBlk (bs, false)).2) e w' := read34f bs hbs p M cap w hM hB
theorem read36 (bs : List Nat) (hbs : Byt bs) (p : Option Addr) (M cap : Nat) (w : World) (hM : M = bs.length) (hB : BytesAt w (.slice p M cap) bs) (_ : M < 100000000000) :
    Calls Try.prog 36 #[.slice p M cap] w fun e w' => WhRs w (wh73 bs) (whE bs.length (pRes (bs, false)).2) e w' := read36f bs hbs p M cap w hM hB
end Go.Proofs.Ytpiflgbcbhnmpaa
