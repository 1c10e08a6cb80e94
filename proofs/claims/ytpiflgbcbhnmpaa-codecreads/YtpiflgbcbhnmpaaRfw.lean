/- The reference's ReadSealed 33 and ReadBlock 35. -/
import Derived.Test.YtpiflgbcbhnmpaaRfb
import Derived.Test.YtpiflgbcbhnmpaaWhole
namespace Go.Proofs.Ytpiflgbcbhnmpaa
open Go.RowKit
attribute [local go_sem ↓] zv47 zv39 zv41
theorem RfAt.start {W : World} {v : Value} {bs : List Nat} (hb : BytesAt W v bs) (hbs : Byt bs) (hl : bs.length < 100000000000) : RfAt (W.alloc (.cells #[v, .bool false] 99)) W.heap.size (bs, false) :=
  ⟨v, bs, Blk.new W [v, .bool false] 99, (Ap.of hb (Nat.le_refl _)).only (Only.of_below ((Below.refl _ _).alloc (Nat.le_refl _) _)), hbs, hl, fun _ => rfl⟩
set_option maxRecDepth 100000 in
set_option maxHeartbeats 8000000 in
theorem read33 (bs : List Nat) (hbs : Byt bs) (p : Option Addr) (M cap : Nat) (w : World) (hM : M = bs.length) (hB : BytesAt w (.slice p M cap) bs) :
    Calls Try.prog 33 #[.slice p M cap] w fun e w' => WhSd w (wh66 bs) (whE bs.length (pSeal (bs, false)).2) e w' := by
  have hZl : z47.length = 37 := by simp [z47, zB_length]
  have hiz : (Try.prog.info? 47).map (·.size) = some z47.length := by rw [hZl]; exact size47
  have hB0 : Blk (w.alloc (.cells z47.toArray 47)) w.heap.size z47 47 := Blk.new _ _ _
  have hbe : Below w.heap.size w (w.alloc (.cells z47.toArray 47)) := (Below.refl _ _).alloc (Nat.le_refl _) _
  have hone := hid (show ∀ v ∈ z47, v.oneCell' = true from fun v hv => by
    simp only [z47, List.mem_cons] at hv
    rcases hv with rfl | rfl | rfl | rfl | rfl | hv
    · rfl
    · rfl
    · rfl
    · rfl
    · rfl
    · exact mapBy_one _ v hv)
  have HZ := hid (show ∀ W : World, SdAt W w.heap.size sd0 z47 from fun W => ⟨.slice none 0 0, rfl, ⟨rfl, Or.inl ⟨rfl, rfl⟩⟩⟩)
  obtain ⟨d, s, hds⟩ : ∃ d s, pSeal (bs, false) = (d, s) := ⟨_, _, rfl⟩
  unfold wh66
  rw [hds]
  show Calls _ _ _ _ fun e w' => WhSd w (if whE bs.length s = 0 then d else sd0) (whE bs.length s) e w'
  by_cases hbig : 262144 < bs.length
  · have e1 : (262144 : Int) < (M : Int) := by omega
    rw [show whE bs.length s = 1 by unfold whE; rw [if_pos hbig], if_neg (by decide)]
    clear hB hM hbs hbig hds
    have hth := hB0.there 0 z47.length (by omega)
    have hbr := Blk.setCells z47 0 hB0 (by omega)
    rw [show over z47 0 z47 = z47 by simp [over]] at hbr
    have hbf := hid (Below.setCells hbe (b := w.heap.size) (Nat.le_refl _) 0 z47)
    go_enter Try.func33, Try.ntmps33
    go_wp2_with (first
      | ((with_reducible refine wpL_store 47 w.heap.size 0 z47 ?_ ?_ hth hiz hone.out ?_); (rfl); (rfl); (simp only [Act.put])))
    exact bodyPost_ret (results_cell_tmp Try.results33 rfl rfl hbr Try.underlying47 rfl hiz) rfl ⟨_, rfl, HZ.out _, hZl, hone.out, hbf.out⟩
  · have e1 : ¬ (262144 : Int) < (M : Int) := by omega
    have hRd := hid (RfAt.start (W := w.alloc (.cells z47.toArray 47)) (hB.below hbe) hbs (by omega))
    have hcall := hid (show ∀ W rb, RfAt W rb (bs, false) → Calls Try.prog 68 #[.pointer (some ⟨rb, 0, none⟩)] W fun e w' => SfOk W rb d s e w' from fun W rb h => by
      have h9 := sealed68 rb (bs, false) (fun h => by cases h) W h
      rw [hds] at h9
      exact h9)
    have hE0 : whE bs.length s = if s.2 = true ∨ 0 < s.1.length then 11 else 0 := by unfold whE; rw [if_neg hbig]
    rw [hE0]
    obtain ⟨EF, hEF⟩ : ∃ E : Int, E = (if s.2 = true ∨ 0 < s.1.length then 11 else 0) := ⟨_, rfl⟩
    rw [← hEF]
    obtain ⟨DF, hDF⟩ : ∃ D, D = (if EF = 0 then d else sd0) := ⟨_, rfl⟩
    rw [← hDF]
    have HBADF := hid (show (s.2 = true ∨ 0 < s.1.length) → EF = 11 ∧ DF = sd0 from fun h => by rw [if_pos h] at hEF; rw [hEF] at hDF; rw [if_neg (by decide)] at hDF; exact ⟨hEF, hDF⟩)
    have HOKF := hid (show ¬ (s.2 = true ∨ 0 < s.1.length) → EF = 0 ∧ DF = d from fun h => by rw [if_neg h] at hEF; rw [hEF] at hDF; rw [if_pos rfl] at hDF; exact ⟨hEF, hDF⟩)
    unfold SfOk at hcall
    clear hB hM hbs hbig hds hE0 hEF hDF
    go_enter Try.func33, Try.ntmps33
    go_upto_region 3 with (fail)
    generalize w.alloc (.cells z47.toArray 47) = W at *
    have hbe1 := hid (hbe.alloc hbe.size (.cells #[.slice p M cap, .bool false] 99))
    have k0 := hid (hB0.alloc (.cells #[.slice p M cap, .bool false] 99))
    have hlt1 := hB0.lt
    clear hB0
    go_wp2_with fail
    refine Calls.mono (hcall.out _ _ hRd.out) ?_
    rintro e w2 ⟨es, rfl, hA, hel, hone2, hR2, hO2⟩
    have honeE := hid hone2
    clear hone2
    have hbb : w.heap.size < (W.alloc (.cells #[.slice p M cap, .bool false] 99)).heap.size := by simp; omega
    obtain ⟨base, hbase⟩ : ∃ b, b = (W.alloc (.cells #[.slice p M cap, .bool false] 99)).heap.size := ⟨_, rfl⟩
    rw [← hbase] at hA hbb
    clear hbase
    have hk0 := hO2.blk k0.out (by omega)
    have hbe2 := Only.under hbe1.out hO2 hbe.size hbe1.out.size
    obtain ⟨RB, hRB⟩ : ∃ RB, RB = W.heap.size := ⟨_, rfl⟩
    rw [← hRB] at hR2 hlt1
    simp only [← hRB]
    clear hcall k0 hRd hbe1 hO2 hRB hbe
    have hi2 : (Try.prog.info? 47).map (·.size) = some es.length := by rw [hel]; exact size47
    have hzl : z47.length = es.length := by rw [hel, hZl]
    have k0 := hid (hk0.alloc (.cells es.toArray 47))
    have kn := hid (Blk.new w2 es 47)
    have hR3 := hid (hR2.below ((Below.refl _ _).alloc (Nat.le_refl _) (.cells es.toArray 47)))
    have hbe3 := hid (hbe2.alloc hbe2.size (.cells es.toArray 47))
    have hA3 := hid (fun hb => (hA hb).below ((Below.refl _ _).alloc (Nat.le_refl _) (.cells es.toArray 47)))
    have hw2 := hR2.lt
    clear hk0 hR2 hbe2 hA
    go_upto_region 5 with (first
      | ((with_reducible refine wpL_new 47 z47 es zv47 hzl ?_ ?_ hi2 honeE.out ?_); (rfl); (rfl); (simp only [Act.put, List.setIfInBounds_toArray, List.set_cons_zero, List.set_cons_succ])))
    obtain ⟨n2, hn2⟩ : ∃ n2, n2 = w2.heap.size := ⟨_, rfl⟩
    generalize w2.alloc (.cells es.toArray 47) = W3 at *
    rw [← hn2] at kn hw2
    simp only [← hn2]
    clear hn2
    have hFIN := hid (show ∀ X : List Value, X.length = z47.length → W3.there w.heap.size 0 X.length ∧ Blk (W3.setCells w.heap.size 0 X) w.heap.size X 47 ∧ Below w.heap.size w (W3.setCells w.heap.size 0 X) from fun X hX => by
      have h1 := Blk.setCells X 0 k0.out (by omega)
      rw [show over z47 0 X = X by simp [over, hX]] at h1
      exact ⟨k0.out.there 0 _ (by omega), h1, Below.setCells hbe3.out (Nat.le_refl _) 0 X⟩)
    have hrn := kn.out.range
    have hend := hid (ended69 RB s W3 hR3.out)
    obtain ⟨bd, hbd⟩ : ∃ bd, bd = (!s.2 && decide (s.1.length = 0)) := ⟨_, rfl⟩
    rw [← hbd] at hend
    have HBD := hid (fun (_ : Nat) => hbd)
    obtain ⟨x1, x2, x3⟩ := hFIN.out z47 rfl
    obtain ⟨y1, y2, y3⟩ := hFIN.out es hzl.symm
    have X3 := hid x3
    have Y3 := hid y3
    have hSL := hid (fun hb => show SdAt (W3.setCells w.heap.size 0 es) w.heap.size d es from by
      obtain ⟨cv, he, ho⟩ := hA3.out hb
      exact ⟨cv, he, (ho.setsLow hbb 0 es).mono (by omega)⟩)
    clear hFIN x3 y3 hbd hR3 k0 kn hbe3 hA3
    cases bd
    · have hc : s.2 = true ∨ 0 < s.1.length := by
        have := HBD.out 0
        cases hs : s.2
        · rw [hs] at this; simp at this
          exact Or.inr (List.length_pos_iff.2 this)
        · exact Or.inl rfl
      obtain ⟨q1, q2⟩ := HBADF.out hc
      have Q1 := hid q1
      have Q2 := hid q2
      clear q1 q2 hc
      go_wp2_with fail
      refine Calls.mono hend.out ?_
      rintro e w4 ⟨rfl, rfl⟩
      clear hend
      go_wp2_with (first
        | ((with_reducible refine wpL_store 47 w.heap.size 0 z47 ?_ ?_ x1 hiz hone.out ?_); (rfl); (rfl); (simp only [Act.put])))
      exact bodyPost_ret (results_cell_tmp Try.results33 rfl rfl x2 Try.underlying47 rfl hiz) rfl (by rw [Q1.out, Q2.out]; exact ⟨_, rfl, HZ.out _, hZl, hone.out, X3.out⟩)
    · have hc : s.2 = false ∧ s.1.length = 0 := by
        have := HBD.out 0
        cases hs : s.2
        · rw [hs] at this; simp at this; exact ⟨rfl, by rw [this]; rfl⟩
        · rw [hs] at this; cases this
      obtain ⟨q1, q2⟩ := HOKF.out (by rw [hc.1, hc.2]; simp)
      have Q1 := hid q1
      have Q2 := hid q2
      have HS2 := hid hc.1
      clear q1 q2 hc
      go_wp2_with fail
      refine Calls.mono hend.out ?_
      rintro e w4 ⟨rfl, rfl⟩
      clear hend
      go_wp2_with (first
        | ((with_reducible refine wpL_load 47 n2 0 es _ ?_ hrn Try.underlying47 ?_ hi2 ?_); (rfl); (rfl); (simp only [Act.put, List.setIfInBounds_toArray, List.set_cons_zero, List.set_cons_succ]))
        | ((with_reducible refine wpL_store 47 w.heap.size 0 es ?_ ?_ y1 hi2 honeE.out ?_); (rfl); (rfl); (simp only [Act.put])))
      exact bodyPost_ret (results_cell_tmp Try.results33 rfl rfl y2 Try.underlying47 rfl hi2) rfl (by rw [Q1.out, Q2.out]; exact ⟨_, rfl, hSL.out HS2.out, hel, honeE.out, Y3.out⟩)
set_option maxRecDepth 100000 in
set_option maxHeartbeats 8000000 in
theorem read35 (bs : List Nat) (hbs : Byt bs) (p : Option Addr) (M cap : Nat) (w : World) (hM : M = bs.length) (hB : BytesAt w (.slice p M cap) bs) :
    Calls Try.prog 35 #[.slice p M cap] w fun e w' => WhBk w (wh70 bs) (whE bs.length (pBlk (bs, false)).2) e w' := by
  have hZl : z39.length = 98 := bkL_length _ _ _ _ _ (zB_length 32) (zB_length 32) (zB_length 32)
  have hiz : (Try.prog.info? 39).map (·.size) = some z39.length := by rw [hZl]; exact size39
  have hB0 : Blk (w.alloc (.cells z39.toArray 39)) w.heap.size z39 39 := Blk.new _ _ _
  have hbe : Below w.heap.size w (w.alloc (.cells z39.toArray 39)) := (Below.refl _ _).alloc (Nat.le_refl _) _
  have hone := hid (show ∀ v ∈ z39, v.oneCell' = true from fun v hv => by
    simp only [z39, bkL, List.mem_cons, List.mem_append, List.not_mem_nil, or_false] at hv
    rcases hv with rfl | hv | hv | hv | rfl
    · rfl
    · exact mapBy_one _ v hv
    · exact mapBy_one _ v hv
    · exact mapBy_one _ v hv
    · rfl)
  have HZ := hid (show ∀ W : World, BkAt W w.heap.size bk0 z39 from fun W => ⟨.slice none 0 0, rfl, OwnS.nil _ _⟩)
  obtain ⟨d, s, hds⟩ : ∃ d s, pBlk (bs, false) = (d, s) := ⟨_, _, rfl⟩
  unfold wh70
  rw [hds]
  show Calls _ _ _ _ fun e w' => WhBk w (if whE bs.length s = 0 then d else bk0) (whE bs.length s) e w'
  by_cases hbig : 262144 < bs.length
  · have e1 : (262144 : Int) < (M : Int) := by omega
    rw [show whE bs.length s = 1 by unfold whE; rw [if_pos hbig], if_neg (by decide)]
    clear hB hM hbs hbig hds
    have hth := hB0.there 0 z39.length (by omega)
    have hbr := Blk.setCells z39 0 hB0 (by omega)
    rw [show over z39 0 z39 = z39 by simp [over]] at hbr
    have hbf := hid (Below.setCells hbe (b := w.heap.size) (Nat.le_refl _) 0 z39)
    go_enter Try.func35, Try.ntmps35
    go_wp2_with (first
      | ((with_reducible refine wpL_store 39 w.heap.size 0 z39 ?_ ?_ hth hiz hone.out ?_); (rfl); (rfl); (simp only [Act.put])))
    exact bodyPost_ret (results_cell_tmp Try.results35 rfl rfl hbr Try.underlying39 rfl hiz) rfl ⟨_, rfl, HZ.out _, hZl, hone.out, hbf.out⟩
  · have e1 : ¬ (262144 : Int) < (M : Int) := by omega
    have hRd := hid (RfAt.start (W := w.alloc (.cells z39.toArray 39)) (hB.below hbe) hbs (by omega))
    have hcall := hid (show ∀ W rb, RfAt W rb (bs, false) → Calls Try.prog 72 #[.pointer (some ⟨rb, 0, none⟩)] W fun e w' => BfOk W rb d s e w' from fun W rb h => by
      have h9 := block72 rb (bs, false) (fun h => by cases h) W h
      rw [hds] at h9
      exact h9)
    have hE0 : whE bs.length s = if s.2 = true ∨ 0 < s.1.length then 11 else 0 := by unfold whE; rw [if_neg hbig]
    rw [hE0]
    obtain ⟨EF, hEF⟩ : ∃ E : Int, E = (if s.2 = true ∨ 0 < s.1.length then 11 else 0) := ⟨_, rfl⟩
    rw [← hEF]
    obtain ⟨DF, hDF⟩ : ∃ D, D = (if EF = 0 then d else bk0) := ⟨_, rfl⟩
    rw [← hDF]
    have HBADF := hid (show (s.2 = true ∨ 0 < s.1.length) → EF = 11 ∧ DF = bk0 from fun h => by rw [if_pos h] at hEF; rw [hEF] at hDF; rw [if_neg (by decide)] at hDF; exact ⟨hEF, hDF⟩)
    have HOKF := hid (show ¬ (s.2 = true ∨ 0 < s.1.length) → EF = 0 ∧ DF = d from fun h => by rw [if_neg h] at hEF; rw [hEF] at hDF; rw [if_pos rfl] at hDF; exact ⟨hEF, hDF⟩)
    unfold BfOk at hcall
    clear hB hM hbs hbig hds hE0 hEF hDF
    go_enter Try.func35, Try.ntmps35
    go_upto_region 3 with (fail)
    generalize w.alloc (.cells z39.toArray 39) = W at *
    have hbe1 := hid (hbe.alloc hbe.size (.cells #[.slice p M cap, .bool false] 99))
    have k0 := hid (hB0.alloc (.cells #[.slice p M cap, .bool false] 99))
    have hlt1 := hB0.lt
    clear hB0
    go_wp2_with fail
    refine Calls.mono (hcall.out _ _ hRd.out) ?_
    rintro e w2 ⟨es, rfl, hA, hel, hone2, hR2, hO2⟩
    have honeE := hid hone2
    clear hone2
    have hbb : w.heap.size < (W.alloc (.cells #[.slice p M cap, .bool false] 99)).heap.size := by simp; omega
    obtain ⟨base, hbase⟩ : ∃ b, b = (W.alloc (.cells #[.slice p M cap, .bool false] 99)).heap.size := ⟨_, rfl⟩
    rw [← hbase] at hA hbb
    clear hbase
    have hk0 := hO2.blk k0.out (by omega)
    have hbe2 := Only.under hbe1.out hO2 hbe.size hbe1.out.size
    obtain ⟨RB, hRB⟩ : ∃ RB, RB = W.heap.size := ⟨_, rfl⟩
    rw [← hRB] at hR2 hlt1
    simp only [← hRB]
    clear hcall k0 hRd hbe1 hO2 hRB hbe
    have hi2 : (Try.prog.info? 39).map (·.size) = some es.length := by rw [hel]; exact size39
    have hzl : z39.length = es.length := by rw [hel, hZl]
    have k0 := hid (hk0.alloc (.cells es.toArray 39))
    have kn := hid (Blk.new w2 es 39)
    have hR3 := hid (hR2.below ((Below.refl _ _).alloc (Nat.le_refl _) (.cells es.toArray 39)))
    have hbe3 := hid (hbe2.alloc hbe2.size (.cells es.toArray 39))
    have hA3 := hid (fun hb => (hA hb).below ((Below.refl _ _).alloc (Nat.le_refl _) (.cells es.toArray 39)))
    have hw2 := hR2.lt
    clear hk0 hR2 hbe2 hA
    go_upto_region 5 with (first
      | ((with_reducible refine wpL_new 39 z39 es zv39 hzl ?_ ?_ hi2 honeE.out ?_); (rfl); (rfl); (simp only [Act.put, List.setIfInBounds_toArray, List.set_cons_zero, List.set_cons_succ])))
    obtain ⟨n2, hn2⟩ : ∃ n2, n2 = w2.heap.size := ⟨_, rfl⟩
    generalize w2.alloc (.cells es.toArray 39) = W3 at *
    rw [← hn2] at kn hw2
    simp only [← hn2]
    clear hn2
    have hFIN := hid (show ∀ X : List Value, X.length = z39.length → W3.there w.heap.size 0 X.length ∧ Blk (W3.setCells w.heap.size 0 X) w.heap.size X 39 ∧ Below w.heap.size w (W3.setCells w.heap.size 0 X) from fun X hX => by
      have h1 := Blk.setCells X 0 k0.out (by omega)
      rw [show over z39 0 X = X by simp [over, hX]] at h1
      exact ⟨k0.out.there 0 _ (by omega), h1, Below.setCells hbe3.out (Nat.le_refl _) 0 X⟩)
    have hrn := kn.out.range
    have hend := hid (ended69 RB s W3 hR3.out)
    obtain ⟨bd, hbd⟩ : ∃ bd, bd = (!s.2 && decide (s.1.length = 0)) := ⟨_, rfl⟩
    rw [← hbd] at hend
    have HBD := hid (fun (_ : Nat) => hbd)
    obtain ⟨x1, x2, x3⟩ := hFIN.out z39 rfl
    obtain ⟨y1, y2, y3⟩ := hFIN.out es hzl.symm
    have X3 := hid x3
    have Y3 := hid y3
    have hSL := hid (fun hb => show BkAt (W3.setCells w.heap.size 0 es) w.heap.size d es from by
      obtain ⟨cv, he, ho⟩ := hA3.out hb
      exact ⟨cv, he, (ho.setsLow hbb 0 es).mono (by omega)⟩)
    clear hFIN x3 y3 hbd hR3 k0 kn hbe3 hA3
    cases bd
    · have hc : s.2 = true ∨ 0 < s.1.length := by
        have := HBD.out 0
        cases hs : s.2
        · rw [hs] at this; simp at this
          exact Or.inr (List.length_pos_iff.2 this)
        · exact Or.inl rfl
      obtain ⟨q1, q2⟩ := HBADF.out hc
      have Q1 := hid q1
      have Q2 := hid q2
      clear q1 q2 hc
      go_wp2_with fail
      refine Calls.mono hend.out ?_
      rintro e w4 ⟨rfl, rfl⟩
      clear hend
      go_wp2_with (first
        | ((with_reducible refine wpL_store 39 w.heap.size 0 z39 ?_ ?_ x1 hiz hone.out ?_); (rfl); (rfl); (simp only [Act.put])))
      exact bodyPost_ret (results_cell_tmp Try.results35 rfl rfl x2 Try.underlying39 rfl hiz) rfl (by rw [Q1.out, Q2.out]; exact ⟨_, rfl, HZ.out _, hZl, hone.out, X3.out⟩)
    · have hc : s.2 = false ∧ s.1.length = 0 := by
        have := HBD.out 0
        cases hs : s.2
        · rw [hs] at this; simp at this; exact ⟨rfl, by rw [this]; rfl⟩
        · rw [hs] at this; cases this
      obtain ⟨q1, q2⟩ := HOKF.out (by rw [hc.1, hc.2]; simp)
      have Q1 := hid q1
      have Q2 := hid q2
      have HS2 := hid hc.1
      clear q1 q2 hc
      go_wp2_with fail
      refine Calls.mono hend.out ?_
      rintro e w4 ⟨rfl, rfl⟩
      clear hend
      go_wp2_with (first
        | ((with_reducible refine wpL_load 39 n2 0 es _ ?_ hrn Try.underlying39 ?_ hi2 ?_); (rfl); (rfl); (simp only [Act.put, List.setIfInBounds_toArray, List.set_cons_zero, List.set_cons_succ]))
        | ((with_reducible refine wpL_store 39 w.heap.size 0 es ?_ ?_ y1 hi2 honeE.out ?_); (rfl); (rfl); (simp only [Act.put])))
      exact bodyPost_ret (results_cell_tmp Try.results35 rfl rfl y2 Try.underlying39 rfl hi2) rfl (by rw [Q1.out, Q2.out]; exact ⟨_, rfl, hSL.out HS2.out, hel, honeE.out, Y3.out⟩)
end Go.Proofs.Ytpiflgbcbhnmpaa
