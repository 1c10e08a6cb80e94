/- The law FlowNil: its walk. -/
import Derived.Test.YtgkjlfpkhpnpfaaFacts
import Derived.Test.YtgkjlfpkhpnpfaaSame
import Derived.Test.YtgkjlfpkhpnpfaaRefI
namespace Go.Proofs.Ytgkjlfpkhpnpfaa
open Go.RowKit
theorem origin_in {m : Mp} (hf : formed m = true) : ∀ c ∈ [((0 : Int), (0 : Int))], inn m c = true := by
  obtain ⟨f1, f2, -⟩ := formed_of hf
  intro c hc
  rw [List.mem_singleton] at hc
  subst hc
  unfold inn holds
  simp only [Bool.and_eq_true, decide_eq_true_eq]
  omega
set_option maxRecDepth 4000 in
set_option maxHeartbeats 8000000 in
theorem nil_walk (m : Mp) (v : Value) (cx cy : Int) (w : World) (hm : MapAt w v m) :
    Calls Try.prog 7 #[v, C cx cy] w fun e w' => e = .returned (.bool true) ∧ Below w.heap.size w w' := by
  obtain ⟨FW, hFW⟩ : ∃ FW, FW = fewG m.ts.length m.os.length 0 0 := ⟨_, rfl⟩
  have h8 : Hid (∀ W, Calls Try.prog 8 #[] W fun e w' => Out W (.bool true) e w') := awake_any
  have h14 : Hid (∀ x y W, Calls Try.prog 14 #[.pointer none, C x y] W fun e w' => Out W (.tuple #[C 0 0, .bool false]) e w') := next_nil
  have h16n : Hid (∀ x y W, Calls Try.prog 16 #[.pointer none, C x y] W fun e w' => Out W (.int .i64 (-1)) e w') := far_nil
  have h13n : Hid (∀ W, Calls Try.prog 13 #[.pointer none] W fun e w' => OutI W [] e w') := list_nil
  have h20 : Hid (∀ W, Below w.heap.size w W → Calls Try.prog 20 #[v] W fun e w' => Out W (.bool (formed m)) e w') := fun W h => refFormed_any m v W (hm.below h)
  have h21 : Hid (∀ W, Below w.heap.size w W → Calls Try.prog 21 #[v, C cx cy] W fun e w' => Out W (.bool (formed m && holds m cx cy)) e w') := fun W h => refInside_any m v cx cy W (hm.below h)
  have h10 : Hid (formed m = true → ∀ W p c q d t, IntsAt W (.slice p m.ts.length c) m.ts → IntsAt W (.slice q m.os.length d) m.os → CellsAt W t [(0, 0)] → Calls Try.prog 10 #[.agg #[.int .i64 m.W, .int .i64 m.H, .slice p m.ts.length c, .slice q m.os.length d], .slice none 0 0, t] W fun e w' => ∃ s f, e = .returned (.tuple #[s, .int .i64 0]) ∧ Below W.heap.size W w' ∧ Field m [] [(0, 0)] f ∧ FieldAt w' W.heap.size s m [] [(0, 0)] f) := fun hf W p c q d t h1 h2 ht => by
    have := make_any m _ (.slice none 0 0) t [] [(0, 0)] W ⟨p, c, q, d, rfl, h1, h2⟩ ⟨none, 0, rfl, fun h => absurd rfl h⟩ ht (by simp) (by simp)
    refine this.mono ?_
    rintro e w' ⟨s, rfl, hb, -, h0⟩
    have hE := makeE_ok hf (origin_in hf)
    rw [hE] at h0 ⊢
    obtain ⟨f, h1, h2⟩ := h0 rfl
    exact ⟨s, f, rfl, hb, h1, h2⟩
  have h13 : Hid (formed m = true → ∀ f base s W, FieldAt W base s m [] [(0, 0)] f → Calls Try.prog 13 #[s] W fun e w' => OutI W (listV m f) e w') := fun hf f base s W h => list_any m s _ _ f base W h hf
  have h16 : Hid (∀ f base s x y W, FieldAt W base s m [] [(0, 0)] f → Calls Try.prog 16 #[s, C x y] W fun e w' => Out W (.int .i64 (farV f (x, y))) e w') := fun f base s x y W h => far_any m s _ _ f base x y W h
  have h12 : Hid (∀ xs p q N cap cap' W, IntsAt W (.slice p N cap) xs → IntsAt W (.slice q N cap') xs → N ≤ 1000000 → Calls Try.prog 12 #[.slice p N cap, .slice q N cap'] W fun e w' => Out W (.bool true) e w') := fun xs p q N cap cap' W h h' hN => sameInts_any xs p q N cap cap' W h h' hN
  have HFO : Hid (∀ f, Field m [] [(0, 0)] f → holds m cx cy = false → farV f (cx, cy) = -1) := fun f hf h => by
    unfold farV
    cases hn : f (cx, cy) with
    | none => rfl
    | some n =>
      have := hf.ins _ _ hn
      unfold inn at this
      rw [h] at this; cases this
  have HLL : Hid (formed m = true → ∀ f, (listV m f).length ≤ 400) := fun hf f => by
    obtain ⟨f1, f2, -⟩ := formed_of hf
    have hp := prod_bound f1 f2
    unfold listV
    rw [rowV_length]
    omega
  have HTS : Hid (formed m = true → 16 ≤ m.ts.length ∧ m.ts.length ≤ 400 ∧ 16 ≤ m.os.length ∧ m.os.length ≤ 400) := fun hf => by
    obtain ⟨f1, f2, f3, f4, -⟩ := formed_of hf
    have hp := prod_bound f1 f2
    omega
  have HMV := hid (fun W (h : Below w.heap.size w W) => hm.below h)
  obtain ⟨q1, d1, q2, d2, rfl, -, -⟩ := hm
  have HIT : Hid (∀ W, Below w.heap.size w W → IntsAt W (.slice q1 m.ts.length d1) m.ts ∧ IntsAt W (.slice q2 m.os.length d2) m.os) := fun W h => by
    obtain ⟨p, c, q, d, e, k1, k2⟩ := HMV.out W h
    simp only [Value.agg.injEq, Array.mk.injEq, List.cons.injEq, Value.slice.injEq, and_true, true_and] at e
    obtain ⟨⟨rfl, rfl⟩, rfl, rfl⟩ := e
    exact ⟨k1, k2⟩
  have h9 : Hid (∀ W, Calls Try.prog 9 #[.agg #[.int .i64 m.W, .int .i64 m.H, .slice q1 m.ts.length d1, .slice q2 m.os.length d2], .slice none 0 0, .slice none 0 0] W fun e w' => Out W (.bool FW) e w') := fun W => by
    rw [hFW]; exact few_any _ _ _ _ none none _ _ 0 0 _ _ 0 0 W
  clear hFW HMV
  obtain ⟨S1, hS1⟩ : ∃ z, z = Value.slice q1 m.ts.length d1 := ⟨_, rfl⟩
  obtain ⟨S2, hS2⟩ : ∃ z, z = Value.slice q2 m.os.length d2 := ⟨_, rfl⟩
  obtain ⟨mW, hmW⟩ : ∃ z, z = m.W := ⟨_, rfl⟩
  obtain ⟨mH, hmH⟩ : ∃ z, z = m.H := ⟨_, rfl⟩
  rw [← hS1, ← hS2, ← hmW, ← hmH] at h20 h21 h9 ⊢
  rw [← hS1, ← hS2] at HIT
  rw [← hmW, ← hmH] at h10
  obtain ⟨M, hM⟩ : ∃ M, M = m.ts.length := ⟨_, rfl⟩
  obtain ⟨K, hK⟩ : ∃ K, K = m.os.length := ⟨_, rfl⟩
  rw [← hM, ← hK] at h10 HTS
  have HML := hid (fun (_ : Nat) => And.intro hM hK)
  clear hS1 hS2 hmW hmH hM hK
  unfold C Out OutI at *
  go_enter Try.func7, Try.ntmps7
  go_upto_region 1 with fail
  obtain ⟨W, hW⟩ : ∃ W, W = (w.alloc (.cells #[Value.int .i64 mW, .int .i64 mH, S1, S2] 24)).alloc (.cells #[Value.int .i64 cx, .int .i64 cy] 37) := ⟨_, rfl⟩
  obtain ⟨B, hB⟩ : ∃ B, B = w.heap.size := ⟨_, rfl⟩
  rw [← hW, ← hB]
  have hsz : W.heap.size = B + 2 := by rw [hW, hB]; simp
  have HBE : Hid (∀ w', Below (B + 2) W w' → Below w.heap.size w w') := by
    intro w' h
    have h1 : Below w.heap.size w W := by rw [hW]; exact ((Below.refl _ _).alloc (Nat.le_refl _) _).alloc (by simp) _
    exact h1.trans (h.mono (by omega))
  have hbk : Blk W B [Value.int .i64 mW, .int .i64 mH, S1, S2] 24 := by rw [hW, hB]; exact (Blk.new _ _ _).alloc _
  have hbk2 : Blk W (B + 1) [Value.int .i64 cx, .int .i64 cy] 37 := by rw [hW]; exact Blk.new' _ _ _ _ (by simp [hB])
  have HK : Hid (∀ w', Below (B + 2) W w' → w'.cell? ⟨B, 0, none⟩ = some (.int .i64 mW) ∧ w'.cell? ⟨B, 1, none⟩ = some (.int .i64 mH) ∧ w'.cell? ⟨B, 2, none⟩ = some S1 ∧ w'.cell? ⟨B, 3, none⟩ = some S2 ∧ w'.cell? ⟨B + 1, 0, none⟩ = some (.int .i64 cx) ∧ w'.cell? ⟨B + 1, 1, none⟩ = some (.int .i64 cy)) := fun w' h => by
    have := hbk.below h (by omega)
    have h2 := hbk2.below h (by omega)
    exact ⟨this.cell 0, this.cell 1, this.cell 2, this.cell 3, h2.cell 0, h2.cell 1⟩
  have HB0 := hid (Below.refl (B + 2) W)
  have HSZ : Hid (∀ w', Below (B + 2) W w' → B + 2 ≤ w'.heap.size) := hid fun w' h => by rw [← hsz]; exact h.size
  clear hW hB hbk hbk2 hsz
  go_wp2_with fail
  refine Calls.mono (h8.out W) ?_
  rintro e w1 ⟨rfl, hb1⟩
  have HB1 : Hid (Below (B + 2) W w1) := HB0.out.trans (hb1.mono (HSZ.out _ HB0.out))
  clear hb1 HB0
  obtain ⟨a0, a1, a2, a3, a4, a5⟩ := HK.out _ HB1.out
  go_wp2_with fail
  refine Calls.mono (h9.out w1) ?_
  rintro e w2 ⟨rfl, hb2⟩
  have HB2 : Hid (Below (B + 2) W w2) := HB1.out.trans (hb2.mono (HSZ.out _ HB1.out))
  clear hb2 HB1 a0 a1 a2 a3 a4 a5 h9
  cases FW with
  | false =>
    go_wp2_with fail
    refine Calls.mono (h8.out w2) ?_
    rintro e w3 ⟨rfl, hb3⟩
    have HE := hid (HBE.out _ (HB2.out.trans (hb3.mono (HSZ.out _ HB2.out))))
    clear hb3
    go_wp2
    go_ret
    first
      | exact ⟨rfl, HE.out⟩
      | exact HE.out
  | true =>
    obtain ⟨a0, a1, a2, a3, a4, a5⟩ := HK.out _ HB2.out
    clear h8
    go_wp2_with fail
    refine Calls.mono (h14.out cx cy w2) ?_
    rintro e w3 ⟨rfl, hb3⟩
    have HB3 : Hid (Below (B + 2) W w3) := HB2.out.trans (hb3.mono (HSZ.out _ HB2.out))
    have HB3' : Hid (Below (B + 2) W (w3.alloc (.cells #[Value.int .i64 0, .int .i64 0] 37))) := hid (HB3.out.alloc (HSZ.out _ HB3.out) _)
    clear hb3 a0 a1 a2 a3 a4 a5 HB2 h14
    obtain ⟨a0, a1, a2, a3, a4, a5⟩ := HK.out _ HB3'.out
    go_wp2_with fail
    refine Calls.mono (h16n.out cx cy _) ?_
    rintro e w4 ⟨rfl, hb4⟩
    have HB4 : Hid (Below (B + 2) W w4) := HB3'.out.trans (hb4.mono (HSZ.out _ HB3'.out))
    clear hb4 a0 a1 a2 a3 a4 a5 HB3 HB3' h16n
    go_wp2_with fail
    refine Calls.mono (h13n.out w4) ?_
    rintro e w5 ⟨s, rfl, ho, hb5⟩
    have HB5 : Hid (Below (B + 2) W w5) := HB4.out.trans (hb5.mono (HSZ.out _ HB4.out))
    obtain ⟨sp, sc, rfl⟩ := ho.form
    simp only [List.length_nil]
    obtain ⟨a0, a1, a2, a3, a4, a5⟩ := HK.out _ HB5.out
    clear hb5 ho HB4 h13n
    go_wp2_with fail
    refine Calls.mono (h20.out w5 (HBE.out _ HB5.out)) ?_
    rintro e w6 ⟨rfl, hb6⟩
    have HB6 : Hid (Below (B + 2) W w6) := HB5.out.trans (hb6.mono (HSZ.out _ HB5.out))
    clear hb6 HB5 a0 a1 a2 a3 a4 a5 h20
    cases hfm : formed m with
    | false =>
      have HE := hid (HBE.out _ HB6.out)
      go_wp2
      go_ret
      first
        | exact ⟨rfl, HE.out⟩
        | exact HE.out
    | true =>
      obtain ⟨t1, t2, t3, t4⟩ := HTS.out hfm
      have H10 := hid (h10.out hfm)
      have H13 := hid (h13.out hfm)
      have HLM := hid (HLL.out hfm)
      rw [hfm] at h21
      simp only [Bool.true_and] at h21
      clear h10 h13 HLL HTS hfm
      obtain ⟨a0, a1, a2, a3, a4, a5⟩ := HK.out _ HB6.out
      obtain ⟨U, hU⟩ : ∃ U, U = w6.alloc (.cells #[Value.int .i64 mW, .int .i64 mH, .slice none 0 0, .slice none 0 0] 24) := ⟨_, rfl⟩
      obtain ⟨gn, hgn⟩ : ∃ gn, gn = w6.heap.size := ⟨_, rfl⟩
      have HUB : Hid (Below gn w6 U) := by rw [hU, hgn]; exact (Below.refl _ _).alloc (Nat.le_refl _) _
      have HUG : Hid (Blk U gn [.int .i64 mW, .int .i64 mH, .slice none 0 0, .slice none 0 0] 24) := by rw [hU, hgn]; exact Blk.new _ _ _
      have hgB : B + 2 ≤ gn := by rw [hgn]; exact HSZ.out _ HB6.out
      have HBU : Hid (Below (B + 2) W U) := HB6.out.trans (HUB.out.mono hgB)
      have hUs : U.heap.size = gn + 1 := by rw [hU, hgn]; simp
      go_upto_region 10 with fail
      rw [← hU, ← hgn]
      clear hU hgn HUB a0 a1 a2 a3 a4 a5 HB6
      obtain ⟨P, hP⟩ : ∃ P, P = gn + 1 := ⟨_, rfl⟩
      have hPg : gn < P := by omega
      have hBP : B + 2 ≤ P := by omega
      rw [← hP] at hUs
      obtain ⟨e1, e2⟩ := HML.out 0
      have HTne : Hid (m.ts ≠ []) := hid fun h => by rw [h] at e1; simp at e1; omega
      have HOne : Hid (m.os ≠ []) := hid fun h => by rw [h] at e2; simp at e2; omega
      have HTl : Hid (([] : List Int).length + m.ts.length = M) := hid (by rw [e1]; simp)
      have HOl : Hid (([] : List Int).length + m.os.length = K) := hid (by rw [e2]; simp)
      have HM4 : Hid (M ≤ 1099511627776) := hid (by omega)
      have HK4 : Hid (K ≤ 1099511627776) := hid (by omega)
      have HT0 := hid (HIT.out U (HBE.out _ HBU.out)).1
      have HP0 : Hid (P ≤ U.heap.size) := hid (by omega)
      have HON : Hid (OwnI U P (.slice none 0 0) []) := OwnI.nil _ _
      have HMB := hid (And.intro t1 t2)
      obtain ⟨a0, a1, a2, a3, -, -⟩ := HK.out _ HBU.out
      have c2 : U.cell? ⟨gn, 2, none⟩ = some (.slice none 0 0) := HUG.out.cell 2
      clear hP e1 e2 t1 t2 t3 t4
      go_upto_region 11 with (first
        | ((with_reducible refine wpL_appendN P (.slice none 0 0) S1 [] m.ts M HTne.out HTl.out ?_ ?_ HON.out HT0.out HM4.out HP0.out ?_); (rfl); (rfl); (intro p8 k8 w8 ho8 hg8); (rw [List.nil_append] at ho8); (have HG8 := hid hg8); (have HO8 := hid ho8); (have HB8 : Hid (Below P U w8) := hid (hg8.below HON.out HP0.out)); (have HC8 : Hid (Blk w8 gn [.int .i64 mW, .int .i64 mH, .slice none 0 0, .slice none 0 0] 24) := hid (HUG.out.below HB8.out hPg)); (have q2 : w8.cell? ⟨gn, 2, none⟩ = some (.slice none 0 0) := HC8.out.cell 2); (have fz2 := HC8.out.frozen 2); clear ho8 hg8))
      obtain ⟨Y, hY⟩ : ∃ Y, Y = w8.setCell ⟨gn, 2, none⟩ (.slice p8 M k8) := ⟨_, rfl⟩
      have hT8 := turn_one w8 gn 2 (.slice p8 M k8)
      have HCY : Hid (Blk Y gn [.int .i64 mW, .int .i64 mH, .slice p8 M k8, .slice none 0 0] 24) := by rw [hY]; exact HC8.out.set 2 _
      rw [← hY] at hT8 ⊢
      have HOY : Hid (OwnI Y P (.slice p8 M k8) m.ts) := HO8.out.turn hT8 hPg
      have HBY : Hid (Below (B + 2) W Y) := (HBU.out.trans (HB8.out.mono (by omega))).trans (hT8.below hgB)
      have HPY : Hid (P ≤ Y.heap.size) := hid (by rw [hT8.size]; have := HB8.out.size; omega)
      clear hY hT8 HG8 HO8 HB8 HC8 q2 fz2 HUG HBU HT0 HP0 HON c2 a0 a1 a2 a3 hUs
      obtain ⟨a0, a1, a2, a3, -, -⟩ := HK.out _ HBY.out
      have HT1 := hid (HIT.out Y (HBE.out _ HBY.out)).2
      have HON : Hid (OwnI Y P (.slice none 0 0) []) := OwnI.nil _ _
      have c3 : Y.cell? ⟨gn, 3, none⟩ = some (.slice none 0 0) := HCY.out.cell 3
      go_upto_region 12 with (first
        | ((with_reducible refine wpL_appendN P (.slice none 0 0) S2 [] m.os K HOne.out HOl.out ?_ ?_ HON.out HT1.out HK4.out HPY.out ?_); (rfl); (rfl); (intro p9 k9 w9 ho9 hg9); (rw [List.nil_append] at ho9); (have HO9 := hid ho9); (have HB9 : Hid (Below P Y w9) := hid (hg9.below HON.out HPY.out)); (have HC9 : Hid (Blk w9 gn [.int .i64 mW, .int .i64 mH, .slice p8 M k8, .slice none 0 0] 24) := hid (HCY.out.below HB9.out hPg)); (have HT9 : Hid (OwnI w9 P (.slice p8 M k8) m.ts) := hid (HOY.out.gro hg9 (by intro j _ h; simp [Value.ownBlock] at h))); (have q2 : w9.cell? ⟨gn, 3, none⟩ = some (.slice none 0 0) := HC9.out.cell 3); (have fz2 := HC9.out.frozen 3); clear ho9 hg9))
      obtain ⟨Z, hZ⟩ : ∃ Z, Z = w9.setCell ⟨gn, 3, none⟩ (.slice p9 K k9) := ⟨_, rfl⟩
      have hT9 := turn_one w9 gn 3 (.slice p9 K k9)
      have HCZ : Hid (Blk Z gn [.int .i64 mW, .int .i64 mH, .slice p8 M k8, .slice p9 K k9] 24) := by rw [hZ]; exact HC9.out.set 3 _
      rw [← hZ] at hT9 ⊢
      have HTZ : Hid (OwnI Z P (.slice p8 M k8) m.ts) := HT9.out.turn hT9 hPg
      have HOZ : Hid (OwnI Z P (.slice p9 K k9) m.os) := HO9.out.turn hT9 hPg
      have HBZ : Hid (Below (B + 2) W Z) := (HBY.out.trans (HB9.out.mono (by omega))).trans (hT9.below hgB)
      have HPZ : Hid (P ≤ Z.heap.size) := hid (by rw [hT9.size]; have := HB9.out.size; have := HPY.out; omega)
      clear hZ hT9 HO9 HB9 HC9 HT9 q2 fz2 HCY HBY HT1 HPY HON c3 a0 a1 a2 a3 HOY
      have n0 : Z.cell? ⟨gn, 0, none⟩ = some (.int .i64 mW) := HCZ.out.cell 0
      have n1 : Z.cell? ⟨gn, 1, none⟩ = some (.int .i64 mH) := HCZ.out.cell 1
      have n2 : Z.cell? ⟨gn, 2, none⟩ = some (.slice p8 M k8) := HCZ.out.cell 2
      have n3 : Z.cell? ⟨gn, 3, none⟩ = some (.slice p9 K k9) := HCZ.out.cell 3
      obtain ⟨V, hV⟩ : ∃ V, V = Z.alloc (.cells #[Value.int .i64 0, .int .i64 0] 37) := ⟨_, rfl⟩
      have HVB : Hid (Below Z.heap.size Z V) := by rw [hV]; exact (Below.refl _ _).alloc (Nat.le_refl _) _
      have HVG : Hid (CellsAt V (.slice (some ⟨Z.heap.size, 0, none⟩) 1 1) [(0, 0)]) := by rw [hV]; exact hid (OwnC.one (Blk.new _ _ _)).cells
      have HTV : Hid (OwnI V P (.slice p8 M k8) m.ts) := hid (HTZ.out.below HVB.out)
      have HOV : Hid (OwnI V P (.slice p9 K k9) m.os) := hid (HOZ.out.below HVB.out)
      have HCV : Hid (Blk V gn [.int .i64 mW, .int .i64 mH, .slice p8 M k8, .slice p9 K k9] 24) := hid (HCZ.out.below HVB.out HCZ.out.lt)
      have HBV : Hid (Below (B + 2) W V) := hid (HBZ.out.trans (HVB.out.mono (by have := HPZ.out; omega)))
      have HPV : Hid (P ≤ V.heap.size) := hid (by have := HVB.out.size; have := HPZ.out; omega)
      have hVZ : V.heap.size = Z.heap.size + 1 := by rw [hV]; simp
      have HV := hid (fun (_ : Nat) => hV)
      clear hV HVB HTZ HOZ HCZ HBZ
      go_wp2_with fail
      rw [← HV.out 0]
      refine Calls.mono (H10.out V p8 k8 p9 k9 _ HTV.out.ints HOV.out.ints HVG.out) ?_
      rintro e w9 ⟨s, f, rfl, hb9, hfi, hfa⟩
      have HFI := hid hfi
      have HFA := hid hfa
      have HT9 := hid (HTV.out.below hb9)
      have HTZV : Hid (∀ k, Value.ownBlock (.slice p8 M k8) = some k → k < V.heap.size) := hid fun k hk => (HTV.out.block k hk).2
      have HVS9 : Hid (V.heap.size ≤ w9.heap.size) := hid hb9.size
      have HC9 : Hid (Blk w9 gn [.int .i64 mW, .int .i64 mH, .slice p8 M k8, .slice p9 K k9] 24) := hid (HCV.out.below hb9 HCV.out.lt)
      have HB9 : Hid (Below (B + 2) W w9) := hid (HBV.out.trans (hb9.mono (by have := HPV.out; omega)))
      clear hfi hfa hb9 HTV HOV HCV HBV HVG n0 n1 n2 n3 HV H10
      go_wp2_with fail
      refine Calls.mono (H13.out f _ _ w9 HFA.out) ?_
      rintro e w10 ⟨bv, rfl, hob, hb10⟩
      have hTb := HT9.out.below hb10
      obtain ⟨kt, lt, rfl, hbt, hlt, hkt⟩ := hTb.blk (by have := HMB.out; omega)
      have HFA10 := hid (HFA.out.below hb10)
      have HC10 : Hid (Blk w10 gn [.int .i64 mW, .int .i64 mH, .slice (some ⟨kt, 0, none⟩) M k8, .slice p9 K k9] 24) := hid (HC9.out.below hb10 HC9.out.lt)
      have hk9 : kt < V.heap.size := by
        have := (HTZV.out kt rfl)
        exact this
      obtain ⟨pb, kb, rfl⟩ := hob.form
      have HOB := hid hob
      have HLB := hid (HLM.out f)
      have HB10 : Hid (Below (B + 2) W w10) := hid (HB9.out.trans (hb10.mono (by have := HPV.out; have := HSZ.out _ HB9.out; omega)))
      have HVS : Hid (V.heap.size ≤ w9.heap.size) := HVS9
      have HTK := hid hbt
      have HLT := hid hlt
      have HTR0 := hid (Turn.refl kt w10)
      clear hTb hbt hlt hb10 hob HFA HC9 HT9 HB9
      go_upto_region 17 with fail
      go_loopw [12] (fun iv wr => ∃ (i : Nat) (l : List Value), i ≤ M ∧ iv = .int .i64 (i : Int) ∧ Hid (Blk wr kt l 3) ∧ Hid (M ≤ l.length) ∧ Hid (Turn kt w10 wr)) (fun iv _ => M - (intOf iv).toNat)
      case atStart => exact ⟨0, lt, by omega, rfl, HTK, HLT, HTR0⟩
      case round =>
        clear HTK HLT HTR0
        obtain ⟨i, l, hi, rfl, HTK, HLT, HTR⟩ := hrel
        have HCR : Hid (Blk wr gn [.int .i64 mW, .int .i64 mH, .slice (some ⟨kt, 0, none⟩) M k8, .slice p9 K k9] 24) := hid (HC10.out.turn HTR.out (by omega))
        have n2 : wr.cell? ⟨gn, 2, none⟩ = some (.slice (some ⟨kt, 0, none⟩) M k8) := HCR.out.cell 2
        by_cases hl : i < M
        · have hl' : (i : Int) < (M : Int) := by omega
          have hi0 : (0 : Int) ≤ (i : Int) := by omega
          have HIM := hid hl
          have HMB' := HMB.out
          have hw1 : (i : Int) + 1 ≤ 9223372036854775807 := by omega
          obtain ⟨ov, hov⟩ : ∃ ov, l[i]? = some ov := ⟨_, List.getElem?_eq_getElem (by have := HLT.out; omega)⟩
          have k0 : wr.cell? ⟨kt, i, none⟩ = some ov := by rw [HTK.out.cell i]; exact hov
          have z0 : wr.frozen? ⟨kt, i, none⟩ = false := HTK.out.frozen i
          obtain ⟨Q, hQ⟩ : ∃ Q, Q = wr.setCell ⟨kt, i, none⟩ (.int .i64 1) := ⟨_, rfl⟩
          have hTQ := turn_one wr kt i (.int .i64 1)
          have HTKQ : Hid (Blk Q kt (l.set i (.int .i64 1)) 3) := by rw [hQ]; exact hid (HTK.out.set i _)
          rw [← hQ] at hTQ
          have HTRQ : Hid (Turn kt w10 Q) := hid (HTR.out.trans hTQ)
          have HLTQ : Hid (M ≤ (l.set i (.int .i64 1)).length) := hid (by rw [List.length_set]; exact HLT.out)
          have HQ := hid (fun (_ : Nat) => hQ)
          clear hQ hTQ hov HMB' hi hl
          go_wp2
          rw [← HQ.out 0]
          go_roundw
          case rel => exact ⟨i + 1, _, HIM.out, by simp, HTKQ, HLTQ, HTRQ⟩
          case measure =>
            have := HIM.out
            simp [intOf]; omega
        · obtain rfl : i = M := by omega
          have hl' : ((i : Int) < (i : Int)) = False := by simp
          clear hl hi
          have HBR : Hid (Below (B + 2) W wr) := hid (HB10.out.trans (HTR.out.below (by omega)))
          obtain ⟨a0, a1, a2, a3, a4, a5⟩ := HK.out _ HBR.out
          have HFR := hid (HFA10.out.turn HTR.out hk9)
          have HOR := hid (HOB.out.turn HTR.out (by have := HVS.out; omega))
          go_wp2_with fail
          refine Calls.mono (h21.out wr (HBE.out _ HBR.out)) ?_
          rintro e w11 ⟨rfl, hb11⟩
          have HF11 := hid (HFR.out.below hb11)
          have HO11 := hid (HOR.out.below hb11)
          have HB11 : Hid (Below (B + 2) W w11) := hid (HBR.out.trans (hb11.mono (HSZ.out _ HBR.out)))
          clear hb11 HFR HOR HBR a0 a1 a2 a3 a4 a5 n2
          go_wp2_with fail
          refine Calls.mono (H13.out f _ _ w11 HF11.out) ?_
          rintro e w12 ⟨bv, rfl, hob, hb12⟩
          obtain ⟨pb2, kb2, rfl⟩ := hob.form
          have HO12 := hid (HO11.out.below hb12)
          have HF12 := hid (HF11.out.below hb12)
          have HB12 : Hid (Below (B + 2) W w12) := hid (HB11.out.trans (hb12.mono (HSZ.out _ HB11.out)))
          have HOB2 := hid hob
          clear hob hb12 HF11 HO11 HB11
          go_wp2_with fail
          refine Calls.mono (h12.out (listV m f) pb pb2 _ kb kb2 w12 HO12.out.ints HOB2.out.ints (by have := HLB.out; omega)) ?_
          rintro e w13 ⟨rfl, hb13⟩
          have HF13 := hid (HF12.out.below hb13)
          have HB13 : Hid (Below (B + 2) W w13) := hid (HB12.out.trans (hb13.mono (HSZ.out _ HB12.out)))
          obtain ⟨a0, a1, a2, a3, a4, a5⟩ := HK.out _ HB13.out
          clear hb13 HF12 HB12
          cases hin : holds m cx cy with
          | true =>
            have HE := hid (HBE.out _ HB13.out)
            go_wp2
            go_ret
            first
              | exact ⟨rfl, HE.out⟩
              | exact HE.out
          | false =>
            have hfo := HFO.out f HFI.out hin
            have h16' := h16.out f _ _ cx cy w13 HF13.out
            rw [hfo] at h16'
            have H16 := hid h16'
            clear hfo h16'
            go_wp2_with fail
            refine Calls.mono H16.out ?_
            rintro e w14 ⟨rfl, hb14⟩
            have HE := hid (HBE.out _ (HB13.out.trans (hb14.mono (HSZ.out _ HB13.out))))
            clear hb14
            go_wp2
            go_ret
            first
              | exact ⟨rfl, HE.out⟩
              | exact HE.out
end Go.Proofs.Ytgkjlfpkhpnpfaa
