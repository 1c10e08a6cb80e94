/- The reference's reader: block 72. -/
import Derived.Test.YtpiflgbcbhnmpaaRfs
import Derived.Test.YtpiflgbcbhnmpaaRblk
namespace Go.Proofs.Ytpiflgbcbhnmpaa
open Go.RowKit
attribute [local go_sem ↓] zv39
/-- A list of sealed commands whose members are known only where all is well. -/
def OwnF (w : World) (base : Nat) (v : Value) (ds : List Sd) (g : Prop) : Prop := ∃ ess : List (List Value), ess.length = ds.length ∧ w.ownsRow base 47 37 v ds.length ess.flatten ∧ (g → ∀ (i : Nat) (d : Sd) (es : List Value), ds[i]? = some d → ess[i]? = some es → es.length = 37 ∧ SdAt w base d es)
theorem OwnF.all {w : World} {base : Nat} {v : Value} {ds : List Sd} {g : Prop} (h : OwnF w base v ds g) (hg : g) : OwnS w base v ds := by
  obtain ⟨ess, h1, h2, h3⟩ := h
  exact ⟨ess, h1, h2, h3 hg⟩
theorem OwnF.nil (w : World) (base : Nat) (g : Prop) : OwnF w base (.slice none 0 0) [] g := ⟨[], rfl, ⟨rfl, Or.inl ⟨rfl, rfl⟩⟩, fun _ i d es h => by simp at h⟩
theorem OwnF.setLow {w : World} {base : Nat} {v : Value} {ds : List Sd} {G : Prop} (h : OwnF w base v ds G) {g : Nat} (hg : g < base) (j : Nat) (u : Value) : OwnF (w.setCell ⟨g, j, none⟩ u) base v ds G := by
  obtain ⟨ess, h1, h2, h3⟩ := h
  refine ⟨ess, h1, ownsRow_stay h2 fun k hk => Below.heap_setCell _ _ _ _ (by have := (ownsRow_block h2 k hk).1; show k ≠ g; omega), fun hG i d es hd he => ⟨(h3 hG i d es hd he).1, ?_⟩⟩
  obtain ⟨cv, e, h4⟩ := (h3 hG i d es hd he).2
  exact ⟨cv, e, h4.setLow hg j u⟩
theorem pSeal_ok {s : S2} (h : (pSeal s).2.2 = false) : (pSeal s).1.ok = true := by
  obtain ⟨x, hx⟩ : ∃ x, x = pSeal0 s := ⟨_, rfl⟩
  have e1 : (pSeal s).1 = x.1 := by rw [hx]; rfl
  have e2 : (pSeal s).2 = if x.1.ok then x.2 else ([], true) := by rw [hx]; rfl
  rw [e1]
  rw [e2] at h
  generalize x.1.ok = b at *
  cases b
  · cases h
  · rfl
theorem pMany_ok : ∀ (n : Nat) (s : S2), Gd s → (pMany pSeal n s).2.2 = false → (pMany pSeal n s).1.all Sd.ok = true
  | 0, _, _, _ => rfl
  | n + 1, s, hg, h => by
    have hg2 := pSeal_gd hg
    have h2 : (pMany pSeal n (pSeal s).2).2.2 = false := h
    have hs : (pSeal s).2.2 = false := by
      cases hb : (pSeal s).2.2
      · rfl
      · have := pMany_stk (fun _ h => pSeal_gd h) (fun _ h h' => pSeal_stk h h') n _ hg2 hb
        rw [this] at h2; cases h2
    simp only [pMany, List.all_cons]
    rw [pSeal_ok hs, pMany_ok n _ hg2 h2]; rfl
theorem OwnF.putIn {w w5 : World} {base : Nat} {pm : Option Addr} {i cm : Nat} {cs : List Sd} {d : Sd} {g g2 : Prop} {E : List Value} {ess : List (List Value)} {r : Option Nat}
    (hcs : cs.length = i) (hel : ess.length = i) (hmem : g → ∀ (n : Nat) (d' : Sd) (es : List Value), cs[n]? = some d' → ess[n]? = some es → es.length = 37 ∧ SdAt w base d' es) (hgg : g2 → g)
    (hE : E.length = 37) (hd : g2 → SdAt w base d E) (hg : w.grownBy w5 r) (hr : ∀ k, r = some k → ∀ cur, w.heap[k]? ≠ some (.cells cur 52 (0, 0)))
    (hO : w5.ownsRow base 47 37 (.slice pm (i + 1) cm) (i + 1) (ess.flatten ++ E)) : OwnF w5 base (.slice pm (i + 1) cm) (cs ++ [d]) g2 := by
  refine ⟨ess ++ [E], by rw [List.length_append, List.length_append, hel, hcs]; rfl, ?_, fun hG n d' es hd' he => ?_⟩
  · rw [List.length_append, hcs, List.flatten_append]
    simpa using hO
  · rcases Nat.lt_or_ge n i with hn | hn
    · rw [List.getElem?_append_left (by rw [hcs]; exact hn)] at hd'
      rw [List.getElem?_append_left (by rw [hel]; exact hn)] at he
      obtain ⟨h1, h2⟩ := hmem (hgg hG) n d' es hd' he
      exact ⟨h1, h2.grown hg hr⟩
    · rw [List.getElem?_append_right (by rw [hcs]; exact hn), hcs] at hd'
      rw [List.getElem?_append_right (by rw [hel]; exact hn), hel] at he
      have hz : n - i = 0 := by
        have := (List.getElem?_eq_some_iff.1 hd').1
        simp at this
        omega
      rw [hz] at hd' he
      simp at hd' he
      subst hd' he
      exact ⟨hE, (hd hG).grown hg hr⟩
theorem fold47 (E : List Value) (h : E.length = 37) : List.foldl (fun (cs : Array Value) x => cs.setIfInBounds x.2 x.1) #[Value.int .u64 0, .int .i64 0, .int .i64 0, .bool false, .slice none 0 0, .int .u8 0, .int .u8 0, .int .u8 0, .int .u8 0, .int .u8 0, .int .u8 0, .int .u8 0, .int .u8 0, .int .u8 0, .int .u8 0, .int .u8 0, .int .u8 0, .int .u8 0, .int .u8 0, .int .u8 0, .int .u8 0, .int .u8 0, .int .u8 0, .int .u8 0, .int .u8 0, .int .u8 0, .int .u8 0, .int .u8 0, .int .u8 0, .int .u8 0, .int .u8 0, .int .u8 0, .int .u8 0, .int .u8 0, .int .u8 0, .int .u8 0, .int .u8 0] E.zipIdx = E.toArray := by
  rw [foldl_set E 0 _ (by rw [h]; rfl)]
  simp
/-- What block answers: where all is well, the block. -/
def BfOk (w : World) (rb : Nat) (k : Bk) (s : S2) (e : Ending) (w' : World) : Prop := ∃ es, e = .returned (.agg es.toArray) ∧ (s.2 = false → BkAt w' w.heap.size k es) ∧ es.length = 98 ∧ (∀ v ∈ es, v.oneCell' = true) ∧ RfAt w' rb s ∧ Only rb w w'
set_option maxRecDepth 100000 in
set_option maxHeartbeats 8000000 in
theorem block72 (rb : Nat) (s : S2) (hg : Gd s) (w : World) (h : RfAt w rb s) :
    Calls Try.prog 72 #[.pointer (some ⟨rb, 0, none⟩)] w fun e w' => BfOk w rb (pBlk s).1 (pBlk s).2 e w' := by
  have hS := hid (Sr.start (z := z39) (ty := 39) h (by decide))
  have hrw := h.lt
  clear h
  have hBF := pBlk_bk s
  unfold BfOk pBlk pBlk0 at *
  obtain ⟨t, s1, ht⟩ : ∃ a b, pN 59 s = (a, b) := ⟨_, _, rfl⟩
  obtain ⟨pa, s2, hpa⟩ : ∃ a b, pD s1 = (a, b) := ⟨_, _, rfl⟩
  obtain ⟨pb, s3, hpb⟩ : ∃ a b, pD s2 = (a, b) := ⟨_, _, rfl⟩
  obtain ⟨pc, s4, hpc⟩ : ∃ a b, pD s3 = (a, b) := ⟨_, _, rfl⟩
  obtain ⟨N, s5, hn⟩ : ∃ a b, pN 4 s4 = (a, b) := ⟨_, _, rfl⟩
  have G1 : Gd s1 := by have := pN_gd hg 59; rw [ht] at this; exact this
  have G2 : Gd s2 := by have := pD_gd G1; rw [hpa] at this; exact this
  have G3 : Gd s3 := by have := pD_gd G2; rw [hpb] at this; exact this
  have G4 : Gd s4 := by have := pD_gd G3; rw [hpc] at this; exact this
  have G5 : Gd s5 := by have := pN_gd G4 4; rw [hn] at this; exact this
  have hN4 : N ≤ 4 := by have := pN_le 4 s4; rw [hn] at this; exact this
  have ht59 : t ≤ 59 := by have := pN_le 59 s; rw [ht] at this; exact this
  have hkl : pList 4 pSeal s4 = pMany pSeal N s5 := by unfold pList; rw [hn]
  obtain ⟨L, hL⟩ : ∃ L, L = pMany pSeal N s5 := ⟨_, rfl⟩
  have HL0 : Hid (L = ([] ++ (pMany pSeal (N - 0) s5).1, (pMany pSeal (N - 0) s5).2)) := hid hL
  have hLl : L.1.length = N := by rw [hL]; exact pMany_length _ _ _
  have HGL : Hid (Gd L.2) := by rw [hL]; exact hid (pMany_gd (fun _ h => pSeal_gd h) _ _ G5)
  have HALL : Hid (L.2.2 = false → L.1.all Sd.ok = true) := by rw [hL]; exact hid (pMany_ok N s5 G5)
  have K1 : Hid (∀ l W, Sr w W rb w.heap.size 39 z39 l s → Calls Try.prog 75 #[.pointer (some ⟨rb, 0, none⟩), .int .u64 60] W fun e w' => e = .returned (.int .u64 (t : Int)) ∧ Sr w w' rb w.heap.size 39 z39 l s1 ∧ Only rb W w') := fun l W h => by
    have h9 := num_sr h hg 59 (by omega) 60 (by rfl)
    rw [ht] at h9; exact h9
  have K2 : Hid (∀ l W, Sr w W rb w.heap.size 39 z39 l s1 → Calls Try.prog 76 #[.pointer (some ⟨rb, 0, none⟩)] W fun e w' => e = .returned (.agg (pa.map By).toArray) ∧ Sr w w' rb w.heap.size 39 z39 l s2 ∧ Only rb W w') := fun l W h => by have h9 := dig_sr h G1; rw [hpa] at h9; exact h9
  have K3 : Hid (∀ l W, Sr w W rb w.heap.size 39 z39 l s2 → Calls Try.prog 76 #[.pointer (some ⟨rb, 0, none⟩)] W fun e w' => e = .returned (.agg (pb.map By).toArray) ∧ Sr w w' rb w.heap.size 39 z39 l s3 ∧ Only rb W w') := fun l W h => by have h9 := dig_sr h G2; rw [hpb] at h9; exact h9
  have K4 : Hid (∀ l W, Sr w W rb w.heap.size 39 z39 l s3 → Calls Try.prog 76 #[.pointer (some ⟨rb, 0, none⟩)] W fun e w' => e = .returned (.agg (pc.map By).toArray) ∧ Sr w w' rb w.heap.size 39 z39 l s4 ∧ Only rb W w') := fun l W h => by have h9 := dig_sr h G3; rw [hpc] at h9; exact h9
  have K5 : Hid (∀ l W, Sr w W rb w.heap.size 39 z39 l s4 → Calls Try.prog 75 #[.pointer (some ⟨rb, 0, none⟩), .int .u64 5] W fun e w' => e = .returned (.int .u64 (N : Int)) ∧ Sr w w' rb w.heap.size 39 z39 l s5 ∧ Only rb W w') := fun l W h => by
    have h9 := num_sr h G4 4 (by omega) 5 (by rfl)
    rw [hn] at h9; exact h9
  have HC : Hid (∀ (W : World) (s : S2), RfAt W rb s → Gd s → Calls Try.prog 68 #[.pointer (some ⟨rb, 0, none⟩)] W fun e w' => SfOk W rb (pSeal s).1 (pSeal s).2 e w') := fun W s h hg => sealed68 rb s hg W h
  simp only [ht, hpa, hpb, hpc, hkl, ← hL] at hBF ⊢
  have la : (pa.map By).length = 32 := by rw [List.length_map]; exact hBF.p
  have lb : (pb.map By).length = 32 := by rw [List.length_map]; exact hBF.r
  have lc : (pc.map By).length = 32 := by rw [List.length_map]; exact hBF.s
  have lz := zB_length 32
  have HOKL : Hid (L.2.2 = false → (⟨t, pa, pb, pc, L.1⟩ : Bk).ok = decide (0 < N)) := hid (fun hb => by
    unfold Bk.ok sdsOk
    simp only
    rw [HALL.out hb, hLl]
    have a1 : rng (t : Int) 59 = true := by unfold rng; rw [decide_eq_true (show (0 : Int) ≤ (t : Int) by omega), decide_eq_true (show (t : Int) ≤ 59 by omega)]; rfl
    have a2 : decide (N ≤ 4) = true := decide_eq_true hN4
    rw [a1, a2]
    cases decide (0 < N) <;> rfl)
  obtain ⟨k7, hk7⟩ : ∃ k7 : Bk, k7 = ⟨t, pa, pb, pc, L.1⟩ := ⟨_, rfl⟩
  rw [← hk7]
  obtain ⟨s7, hs7⟩ : ∃ s7 : S2, s7 = (if k7.ok = true then L.2 else ([], true)) := ⟨_, rfl⟩
  rw [← hs7]
  rw [← hk7] at HOKL
  have HK7 := hid (fun (_ : Nat) => hk7)
  have HS7 := hid (fun (_ : Nat) => hs7)
  have HG5 := hid G5
  have HLl := hid (fun (_ : Nat) => hLl)
  have ht63 : (t : Int) ≤ 59 := by omega
  have hN63 : (N : Int) ≤ 4 := by omega
  clear hs7 hk7 ht hpa hpb hpc hn hkl hL hLl G1 G2 G3 G4 G5 hg hBF HALL
  go_enter Try.func72, Try.ntmps72
  go_wp2_with fail
  refine Calls.mono (K1.out _ _ hS.out) ?_
  rintro e w1 ⟨rfl, T1, O1⟩
  have c1 : w1.cell? ⟨w.heap.size + 1, 0, none⟩ = some (.int .i64 0) := T1.own.cell 0
  have f1 := T1.own.frozen 0
  have S1 : Hid (Sr w (w1.setCell ⟨w.heap.size + 1, 0, none⟩ (.int .i64 (t : Int))) rb w.heap.size 39 z39 (bkL t (zB 32) (zB 32) (zB 32) (.slice none 0 0)) s1) := T1.set 0 _
  clear T1 O1 hS K1
  go_wp2_with fail
  refine Calls.mono (K2.out _ _ S1.out) ?_
  rintro e w2 ⟨rfl, T2, O2⟩
  have hi36_2 : (Try.prog.info? 36).map (·.size) = some (pa.map By).length := by rw [la]; exact size36
  have hth2 := T2.own.there 1 (pa.map By).length (by rw [la, bkL_length _ _ _ _ _ lz lz lz]; omega)
  have hone2 := hid (mapBy_one pa)
  have S2 : Hid (Sr w (w2.setCells (w.heap.size + 1) 1 (pa.map By)) rb w.heap.size 39 z39 (bkL t (pa.map By) (zB 32) (zB 32) (.slice none 0 0)) s2) := by
    have h9 := T2.sets 1 (pa.map By) (by rw [la, bkL_length _ _ _ _ _ lz lz lz]; omega)
    rw [bkL_over1 _ _ _ _ _ lz _ la] at h9
    exact h9
  clear T2 O2 S1 K2 c1 f1
  go_upto_region 4 with (first
    | ((with_reducible refine wpL_store 36 (w.heap.size + 1) 1 (pa.map By) ?_ ?_ hth2 hi36_2 hone2.out ?_); (rfl); (rfl); (simp only [Act.put])))
  clear hth2 hi36_2 hone2
  generalize w2.setCells (w.heap.size + 1) 1 (pa.map By) = V2 at *
  go_wp2_with fail
  refine Calls.mono (K3.out _ _ S2.out) ?_
  rintro e w3 ⟨rfl, T3, O3⟩
  have hi36_3 : (Try.prog.info? 36).map (·.size) = some (pb.map By).length := by rw [lb]; exact size36
  have hth3 := T3.own.there 33 (pb.map By).length (by rw [lb, bkL_length _ _ _ _ _ la lz lz]; omega)
  have hone3 := hid (mapBy_one pb)
  have S3 : Hid (Sr w (w3.setCells (w.heap.size + 1) 33 (pb.map By)) rb w.heap.size 39 z39 (bkL t (pa.map By) (pb.map By) (zB 32) (.slice none 0 0)) s3) := by
    have h9 := T3.sets 33 (pb.map By) (by rw [lb, bkL_length _ _ _ _ _ la lz lz]; omega)
    rw [bkL_over33 _ _ _ _ _ la lz _ lb] at h9
    exact h9
  clear T3 O3 S2 K3
  go_upto_region 5 with (first
    | ((with_reducible refine wpL_store 36 (w.heap.size + 1) 33 (pb.map By) ?_ ?_ hth3 hi36_3 hone3.out ?_); (rfl); (rfl); (simp only [Act.put])))
  clear hth3 hi36_3 hone3
  generalize w3.setCells (w.heap.size + 1) 33 (pb.map By) = V3 at *
  go_wp2_with fail
  refine Calls.mono (K4.out _ _ S3.out) ?_
  rintro e w4 ⟨rfl, T4, O4⟩
  have hi36_4 : (Try.prog.info? 36).map (·.size) = some (pc.map By).length := by rw [lc]; exact size36
  have hth4 := T4.own.there 65 (pc.map By).length (by rw [lc, bkL_length _ _ _ _ _ la lb lz]; omega)
  have hone4 := hid (mapBy_one pc)
  have S4 : Hid (Sr w (w4.setCells (w.heap.size + 1) 65 (pc.map By)) rb w.heap.size 39 z39 (bkL t (pa.map By) (pb.map By) (pc.map By) (.slice none 0 0)) s4) := by
    have h9 := T4.sets 65 (pc.map By) (by rw [lc, bkL_length _ _ _ _ _ la lb lz]; omega)
    rw [bkL_over65 _ _ _ _ _ la lb lz _ lc] at h9
    exact h9
  clear T4 O4 S3 K4
  go_upto_region 6 with (first
    | ((with_reducible refine wpL_store 36 (w.heap.size + 1) 65 (pc.map By) ?_ ?_ hth4 hi36_4 hone4.out ?_); (rfl); (rfl); (simp only [Act.put])))
  clear hth4 hi36_4 hone4
  generalize w4.setCells (w.heap.size + 1) 65 (pc.map By) = V4 at *
  go_wp2_with fail
  refine Calls.mono (K5.out _ _ S4.out) ?_
  rintro e w5 ⟨rfl, T5, O5⟩
  have S5 := hid T5
  have HB5 : Hid (w.heap.size + 2 ≤ w5.heap.size) := hid (by have := T5.own.lt; omega)
  clear T5 O5 S4 K5
  have HX : Hid (∀ v, (bkL t (pa.map By) (pb.map By) (pc.map By) v).set 97 = fun x => bkL t (pa.map By) (pb.map By) (pc.map By) x) := hid fun v => funext fun x => bkL_set97 _ _ _ _ _ la lb lc x
  have HX2 : Hid (∀ v, (bkL t (pa.map By) (pb.map By) (pc.map By) v)[97]? = some v) := hid fun v => bkL_get97 _ _ _ _ _ la lb lc
  have HX3 : Hid (∀ v, (bkL t (pa.map By) (pb.map By) (pc.map By) v).length = 98) := hid fun v => bkL_length _ _ _ _ _ la lb lc
  have HX4 : Hid (∀ v, v.oneCell' = true → ∀ u ∈ bkL t (pa.map By) (pb.map By) (pc.map By) v, u.oneCell' = true) := hid fun v hv u hu => by
    simp only [bkL, List.mem_cons, List.mem_append, List.not_mem_nil, or_false] at hu
    rcases hu with rfl | hu | hu | hu | rfl
    · rfl
    · exact mapBy_one _ u hu
    · exact mapBy_one _ u hu
    · exact mapBy_one _ u hu
    · exact hv
  have HX5 : Hid (∀ v, k7 = ⟨t, pa, pb, pc, L.1⟩ → bkL t (pa.map By) (pb.map By) (pc.map By) v = k7.cells v) := hid fun v hk => by rw [hk]; rfl
  obtain ⟨X, hX⟩ : ∃ X : Value → List Value, X = fun v => bkL t (pa.map By) (pb.map By) (pc.map By) v := ⟨_, rfl⟩
  have hXv : ∀ v, bkL t (pa.map By) (pb.map By) (pc.map By) v = X v := fun v => by rw [hX]
  simp only [hXv] at S5 HX HX2 HX3 HX4 HX5
  clear hX hXv la lb lc lz
  go_wp2_with fail
  go_loopw [5] (fun iv wr => ∃ (i : Nat) (p : Option Addr) (cap : Nat) (cs : List Sd) (s : S2), iv = .int .i64 (i : Int) ∧ i ≤ N ∧ Hid (cs.length = i) ∧ Hid (L = (cs ++ (pMany pSeal (N - i) s).1, (pMany pSeal (N - i) s).2)) ∧ Hid (OwnF wr w5.heap.size (.slice p i cap) cs (s.2 = false)) ∧ Hid (Gd s) ∧ Hid (Sr w wr rb w.heap.size 39 z39 (X (.slice p i cap)) s) ∧ Hid (w5.heap.size ≤ wr.heap.size)) (fun iv _ => N - (intOf iv).toNat)
  case atStart => exact ⟨0, none, 0, [], s5, rfl, by omega, rfl, HL0, hid (OwnF.nil _ _ _), HG5, S5, Nat.le_refl _⟩
  case round =>
    clear HL0 HG5 S5
    obtain ⟨i, p, cap, cs, s, rfl, hi, hcs, hL, hOw, hG, hSr, hWs⟩ := hrel
    obtain ⟨vr, br, hKr, hAr, -⟩ := id hSr.out.rd
    have d1 : wr.cell? ⟨rb, 1, none⟩ = some (.bool s.2) := hKr.cell 1
    have z1 := hKr.frozen 1
    have c4 : wr.cell? ⟨w.heap.size + 1, 97, none⟩ = some (.slice p i cap) := by rw [hSr.out.own.cell 97]; exact HX2.out _
    have f4 := hSr.out.own.frozen 97
    clear hKr hAr
    by_cases hgo : i < N ∧ s.2 = false
    · obtain ⟨hlt, hs2⟩ := hgo
      rw [hs2] at d1
      have e1 : (i : Int) < (N : Int) := by omega
      have hcall' := hid (HC.out wr.drew s (hSr.out.rd.below (Below.drewN (Below.refl _ _) 1)) hG.out)
      have HL2 : Hid (L = ((cs ++ [(pSeal s).1]) ++ (pMany pSeal (N - (i + 1)) (pSeal s).2).1, (pMany pSeal (N - (i + 1)) (pSeal s).2).2)) := by
        have h0 := hL.out
        rw [show N - i = (N - (i + 1)) + 1 by omega] at h0
        show _ = _
        rw [h0]
        simp [pMany]
      have HG2 := hid (pSeal_gd hG.out)
      have HS2 := hid (fun (_ : Nat) => hs2)
      clear hL hG
      generalize pSeal s = c at *
      obtain ⟨d, s2⟩ := c
      simp only at HL2 HG2 hcall'
      unfold SfOk at hcall'
      go_upto_region 10 with fail
      have hsz := hSr.out.own.lt
      have hrb0 := hSr.out.rlt
      have hi6 : i < 1000000 := by omega
      have hrb5 : rb < w5.heap.size := by have := HB5.out; omega
      obtain ⟨ess, hel, hrow, hmem⟩ := hOw.out
      rw [hcs.out] at hrow hel
      have HMEM := hid (hmem hs2)
      have HEL := hid (fun (_ : Nat) => hel)
      have HROW := hid hrow
      clear hrow hmem hel hOw hs2
      go_region_law (first
        | (rw [if_pos (by rfl)]; refine turn_of_list (ops := #[]) rfl ?_; (with_reducible refine wpL_appendG 37 47 37 88 (.agg z47.toArray) w5.heap.size (.slice p i cap) i ess.flatten E w6.heap.size Try.underlying37 info47 cells47 (by omega) (by omega) ?_ ?_ HO7.out hEl hq.out hone.out hi6 HB7.out ?_); (rfl); (rfl); (intro pm cm w8 hO8 hg8); (refine ⟨rfl, ?_⟩); (have hbk := ownsRow_block HO7.out); (have HS8 := hid (HS7.out.grown hg8 (fun k hk => by obtain ⟨a1, a2, cur, a3⟩ := hbk k hk; exact ⟨by have := HB5.out; omega, cur, _, _, a3, by decide⟩))); (have c48 : w8.cell? ⟨w.heap.size + 1, 97, none⟩ = some (.slice p i cap) := by rw [HS8.out.own.cell 97]; exact HX2.out _); (have f48 := HS8.out.own.frozen 97); (have hno52 : ∀ k, (Value.slice p i cap).ownBlock = some k → ∀ cur, (w6.alloc (.cells E.toArray 47)).heap[k]? ≠ some (.cells cur 52 (0, 0)) := fun k hk cur he => by obtain ⟨_, _, cur2, h2⟩ := hbk k hk; rw [h2] at he; simp at he); (have HO8 := hid (OwnF.putIn (g := True) hcs.out (HEL.out 0) (fun _ => HM7.out) (fun _ => trivial) hEl HD7.out hg8 hno52 hO8)); (have HW8 : Hid (w5.heap.size ≤ w8.heap.size) := hid (Nat.le_trans HB7.out hg8.size)); clear hbk hO8 hg8 hno52)
        | (rw [if_pos (by rfl)]; go_simp; refine Calls.mono hcall'.out ?_; rintro e w6 ⟨E, rfl, hSd, hEl, hone0, hR6, hO6⟩; have hone := hid hone0; have hbld := fold47 E hEl; have hO7' := Only.trans (Only.of_below (hb := rb) (Below.drewN (Below.refl wr.heap.size wr) 1)) hO6; have hS6 := hid (hSr.out.call hO7' hR6); have c46 : w6.cell? ⟨w.heap.size + 1, 97, none⟩ = some (.slice p i cap) := (by rw [hS6.out.own.cell 97]; exact HX2.out _); have hal : Below w6.heap.size w6 (w6.alloc (.cells E.toArray 47)) := (Below.refl _ _).alloc (Nat.le_refl _) _; have hO61 := ownsRow_only HROW.out hO7' hrb5; have HO7 := hid (ownsRow_stay (w' := (w6.alloc (.cells E.toArray 47))) hO61 (fun g hg => hal.block g (ownsRow_block hO61 g hg).2.1)); have hq := hid (show ∀ j v, E[j]? = some v → (w6.alloc (.cells E.toArray 47)).cell? ⟨w6.heap.size, j, none⟩ = some v from fun j v hv => by rw [(Blk.new w6 E 47).cell]; exact hv); have HB7 := hid (show w5.heap.size ≤ (w6.alloc (.cells E.toArray 47)).heap.size from by have h1 := hO7'.size; have h2 := hal.size; have h3 := hWs.out; omega); have HM7 : Hid (∀ (n : Nat) (d' : Sd) (es : List Value), cs[n]? = some d' → ess[n]? = some es → es.length = 37 ∧ SdAt (w6.alloc (.cells E.toArray 47)) w5.heap.size d' es) := hid (fun n d' es h1 h2 => ⟨(HMEM.out n d' es h1 h2).1, ((HMEM.out n d' es h1 h2).2.only hO7' hrb5).below hal⟩); have HD7 : Hid (s2.2 = false → SdAt (w6.alloc (.cells E.toArray 47)) w5.heap.size d E) := hid (fun hb => ((hSd hb).mono (by have h3 := hWs.out; simpa using h3)).below hal); have HS7 := hid (hS6.out.below hal); have c47 : (w6.alloc (.cells E.toArray 47)).cell? ⟨w.heap.size + 1, 97, none⟩ = some (.slice p i cap) := (by rw [HS7.out.own.cell 97]; exact HX2.out _); clear hal hO61 hO7' hR6 hO6 hS6 hSd hone0))
      all_goals
        have HS9 : Hid (Sr w (w8.setCell ⟨w.heap.size + 1, 97, none⟩ (.slice pm (i + 1) cm)) rb w.heap.size 39 z39 (X (.slice pm (i + 1) cm)) s2) := by
          have h9 := HS8.out.set 97 (.slice pm (i + 1) cm)
          rw [HX.out] at h9
          exact hid h9
        have HO9 := hid (HO8.out.setLow (g := w.heap.size + 1) (by have := HB5.out; omega) 97 (.slice pm (i + 1) cm))
        have HW9 : Hid (w5.heap.size ≤ (w8.setCell ⟨w.heap.size + 1, 97, none⟩ (.slice pm (i + 1) cm)).heap.size) := by have := HW8.out; exact hid (by simpa using this)
        have HCL : Hid ((cs ++ [d]).length = i + 1) := by show _ = _; rw [List.length_append, hcs.out]; rfl
        clear HS8 HO8 HS7 HO7 hq HB7 HM7 HD7 hbld c46 c47 c48 f48 hcall' HC
        go_wp2
        exact ⟨⟨i + 1, pm, cm, cs ++ [d], s2, by go_num, by omega, HCL, HL2, HO9, HG2, HS9, HW9⟩, by simp [intOf]; omega⟩
    · have hex : (i < N ∧ s.2 = true) ∨ i = N := by
        rcases Nat.lt_or_ge i N with h | h
        · refine Or.inl ⟨h, ?_⟩
          cases hs : s.2
          · exact absurd ⟨h, hs⟩ hgo
          · rfl
        · exact Or.inr (by omega)
      have hrb5 : rb < w5.heap.size := by have := HB5.out; have := hSr.out.rlt; omega
      obtain ⟨E, hE⟩ : ∃ E, E = X (.slice p i cap) := ⟨_, rfl⟩
      have hEl : E.length = 98 := by rw [hE]; exact HX3.out _
      have HEL := hid (fun (_ : Nat) => hEl)
      have honeE : Hid (∀ v ∈ E, v.oneCell' = true) := by rw [hE]; exact hid (HX4.out _ rfl)
      have hi39 : (Try.prog.info? 39).map (·.size) = some E.length := by rw [hEl]; exact size39
      have HEE : Hid (E = k7.cells (.slice p i cap)) := by rw [hE]; exact hid (HX5.out _ (HK7.out 0))
      rw [← hE] at hSr
      -- what the state becomes
      have hfin : (s7.2 = (s.2 || ((N : Int) == 0))) ∧ (s7.2 = false → s = s7 ∧ cs = L.1 ∧ i = N ∧ s.2 = false) ∧ (s.2 = false → i = N) := by
        rcases hex with ⟨h1, h2⟩ | rfl
        · have hb : L.2.2 = true := by
            rw [hL.out]
            exact pMany_stk (fun _ h => pSeal_gd h) (fun _ h h' => pSeal_stk h h') _ _ hG.out h2
          have h7 : s7.2 = true := by rw [HS7.out 0]; split; exact hb; rfl
          rw [h7, h2]
          exact ⟨rfl, (fun h => by cases h), (fun h => by cases h)⟩
        · have hLL : L = (cs, s) := by rw [hL.out, Nat.sub_self]; simp [pMany]
          have hL2 : L.2 = s := by rw [hLL]
          have hL1 : L.1 = cs := by rw [hLL]
          cases hb : s.2
          · have hok := HOKL.out (by rw [hL2]; exact hb)
            rw [HS7.out 0, hok, hL2]
            by_cases h0 : 0 < i
            · simp [h0, hb, hL1]; omega
            · have : i = 0 := by omega
              subst this
              simp
          · have h7 : s7.2 = true := by rw [HS7.out 0, hL2]; split; exact hb; rfl
            rw [h7]
            exact ⟨rfl, (fun h => by cases h), (fun h => by cases h)⟩
      obtain ⟨hfl, hgood, hiN⟩ := hfin
      have HFL := hid (hSr.out.flag (s' := s7) (fun h => (hgood h).1))
      have HOW : Hid (s7.2 = false → OwnS wr w5.heap.size (.slice p i cap) k7.ds) := hid (fun h => by
        obtain ⟨_, h2, _, h4⟩ := hgood h
        have h9 := hOw.out.all h4
        rw [HK7.out 0]
        rw [h2] at h9
        exact h9)
      have hz : z39.length = E.length := by rw [hEl]; exact bkL_length _ _ _ _ _ (zB_length 32) (zB_length 32) (zB_length 32)
      have HFIN : Hid (∀ b, b = s7.2 → (wr.setCell ⟨rb, 1, none⟩ (.bool b)).rangeAt (w.heap.size + 1) 0 E ∧ (wr.setCell ⟨rb, 1, none⟩ (.bool b)).there w.heap.size 0 E.length ∧ Blk ((wr.setCell ⟨rb, 1, none⟩ (.bool b)).setCells w.heap.size 0 E) w.heap.size E 39 ∧ (s7.2 = false → BkAt ((wr.setCell ⟨rb, 1, none⟩ (.bool b)).setCells w.heap.size 0 E) w.heap.size k7 E) ∧ RfAt ((wr.setCell ⟨rb, 1, none⟩ (.bool b)).setCells w.heap.size 0 E) rb s7 ∧ Only rb w ((wr.setCell ⟨rb, 1, none⟩ (.bool b)).setCells w.heap.size 0 E)) := hid (fun b hb => by
        subst hb
        obtain ⟨g1, g2, g3⟩ := HFL.out.fin hz
        have := HB5.out
        exact ⟨HFL.out.own.range, HFL.out.res.there 0 _ (by omega), g1, fun h => ⟨_, HEE.out, (((HOW.out h).setLow hrb5 1 (.bool s7.2)).setsLow (by omega) 0 E).mono (by omega)⟩, g2, g3⟩)
      have HF2 := hid (fun (_ : Nat) => hfl)
      clear hE hEl hSr hG hOw hL hgo c4 f4 HC HB5 hWs hcs hgood HFL HOW hz hrb5
      have hcase : (s.2 = true ∧ i < N ∧ s7.2 = true) ∨ (s.2 = true ∧ i = N ∧ s7.2 = true) ∨ (s.2 = false ∧ i = N ∧ N = 0 ∧ s7.2 = true) ∨ (s.2 = false ∧ i = N ∧ 0 < N ∧ s7.2 = false) := by
        rw [hfl]
        cases hs : s.2
        · have h1 := hiN hs
          rcases Nat.eq_zero_or_pos N with h0 | h0
          · exact Or.inr (Or.inr (Or.inl ⟨rfl, h1, h0, by rw [h0]; rfl⟩))
          · exact Or.inr (Or.inr (Or.inr ⟨rfl, h1, h0, by simp; omega⟩))
        · rcases Nat.lt_or_ge i N with h0 | h0
          · exact Or.inl ⟨rfl, h0, rfl⟩
          · exact Or.inr (Or.inl ⟨rfl, by omega, rfl⟩)
      clear hfl hiN hex HF2 HOKL HS7 HK7 HX HX2 HX3 HX4 HX5 HGL HLl
      rcases hcase with ⟨hs, hlt, h7⟩ | ⟨hs, rfl, h7⟩ | ⟨hs, rfl, h0, h7⟩ | ⟨hs, rfl, h0, h7⟩
      case' inl => have e1 : (i : Int) < (N : Int) := by omega
      case' inr.inl => have e1 : ((i : Int) < (i : Int)) = False := by simp
      case' inr.inr.inl => subst h0
      case' inr.inr.inr =>
        have e1 : ((i : Int) < (i : Int)) = False := by simp
        have e2 : ((i : Int) == 0) = false := by simp; omega
      all_goals
        rw [hs] at d1
        obtain ⟨g1, g2, g3, g4, g5, g6⟩ := HFIN.out _ h7.symm
        clear HFIN h7 hs
        go_wp2_with (first
          | ((with_reducible refine wpL_load 39 (w.heap.size + 1) 0 E _ ?_ g1 Try.underlying39 ?_ hi39 ?_); (rfl); (rfl); (simp only [Act.put, List.setIfInBounds_toArray, List.set_cons_zero, List.set_cons_succ]))
          | ((with_reducible refine wpL_store 39 w.heap.size 0 E ?_ ?_ g2 hi39 honeE.out ?_); (rfl); (rfl); (simp only [Act.put])))
        refine bodyPost_ret (results_array Try.results72 rfl g3 Try.underlying39 rfl hi39) rfl ?_
        exact ⟨E, rfl, g4, HEL.out 0, honeE.out, g5, g6⟩
end Go.Proofs.Ytpiflgbcbhnmpaa
