/- The law EconActs, walked. -/
import Derived.Test.YtjkcmedmojidgaaAwake
import Derived.Test.YtjkcmedmojidgaaRefTrain
import Derived.Test.YtjkcmedmojidgaaWork
import Derived.Test.YtjkcmedmojidgaaPop
import Derived.Test.YtjkcmedmojidgaaEarn
import Derived.Test.YtjkcmedmojidgaaPlan
namespace Go.Proofs.Ytjkcmedmojidgaa
open Go.RowKit
theorem tr_len (p : Pl) (k : Int) (h : p.q.length ≤ 1000) : (tr p k).q.length ≤ 1000000 := by
  unfold tr; split
  · simp only [List.length_append, List.length_cons, List.length_nil]; omega
  · omega
theorem wk_len (p : Pl) (h : p.q.length ≤ 1000) : (wk p).q.length ≤ 1000000 := by
  unfold wk; split
  · omega
  · split <;> first | omega | (simp only; omega)
theorem pp_len (p : Pl) (h : p.q.length ≤ 1000) : (pp p).q.length ≤ 1000000 := by
  unfold pp; split
  · simp only [List.length_drop]; omega
  · omega
theorem earn_len (p : Pl) (k : Int) (h : p.q.length ≤ 1000) : (earn p k).q.length ≤ 1000000 := by
  unfold earn; split <;> first | omega | (simp only; omega)
/-- A player lies in block B, its queue in the slice (s, n, c). -/
structure PBox (w : World) (B : Nat) (p : Pl) (s : Option Addr) (n c : Nat) : Prop where
  blk : Blk w B [.int .i64 p.o, .bool p.b, .slice s n c, .int .i64 p.l] 36
  ints : IntsAt w (.slice s n c) p.q
theorem PBox.below {w w' : World} {B : Nat} {p : Pl} {s : Option Addr} {n c : Nat} (h : PBox w B p s n c) (hb : Below w.heap.size w w') : PBox w' B p s n c := ⟨h.blk.below hb h.blk.lt, h.ints.below hb⟩
theorem PBox.new {w : World} {p : Pl} {s : Option Addr} {n c : Nat} (h : IntsAt w (.slice s n c) p.q) (W : World) (B : Nat) (hW : W = w.alloc (.cells #[.int .i64 p.o, .bool p.b, .slice s n c, .int .i64 p.l] 36)) (hB : B = w.heap.size) : PBox W B p s n c ∧ Below w.heap.size w W := by
  subst hW hB
  exact ⟨⟨Blk.new w [.int .i64 p.o, .bool p.b, .slice s n c, .int .i64 p.l] 36, h.below ((Below.refl _ _).alloc (Nat.le_refl _) _)⟩, (Below.refl _ _).alloc (Nat.le_refl _) _⟩
theorem PBox.nx {w : World} {B : Nat} {p : Pl} {s : Option Addr} {n c : Nat} (h : PBox w B p s n c) : (∀ x : Nx w, x.w.cell? ⟨B, 0, none⟩ = some (.int .i64 p.o)) ∧ (∀ x : Nx w, x.w.cell? ⟨B, 1, none⟩ = some (.bool p.b)) ∧ (∀ x : Nx w, x.w.cell? ⟨B, 2, none⟩ = some (.slice s n c)) ∧ (∀ x : Nx w, x.w.cell? ⟨B, 3, none⟩ = some (.int .i64 p.l)) :=
  ⟨fun x => (h.below x.h).blk.cell 0, fun x => (h.below x.h).blk.cell 1, fun x => (h.below x.h).blk.cell 2, fun x => (h.below x.h).blk.cell 3⟩
set_option maxRecDepth 20000 in
set_option maxHeartbeats 16000000 in
theorem acts_walk (o : Int) (b : Bool) (q : List Int) (l k ld0 : Int) (s : Option Addr) (M cap : Nat) (w : World) (hM : M = q.length) (hI : IntsAt w (.slice s M cap) q) (ho : I64 o) (hl : I64 l) :
    Calls Try.prog 4 #[.agg #[.int .i64 o, .bool b, .slice s M cap, .int .i64 l], .int .i64 k, .int .i64 ld0] w fun e w' => Out w (.bool true) e w' := by
  have h8 : Hid (∀ W, Calls Try.prog 8 #[] W fun e w' => e = .returned (.bool true) ∧ Below W.heap.size W w') := awake_any
  obtain ⟨W0, hW0⟩ : ∃ W0, W0 = w.alloc (.cells #[.int .i64 o, .bool b, .slice s M cap, .int .i64 l] 36) := ⟨_, rfl⟩
  obtain ⟨B0, hB0⟩ : ∃ B0, B0 = w.heap.size := ⟨_, rfl⟩
  obtain ⟨hp, hb0⟩ := PBox.new (p := ⟨o, b, q, l⟩) hI W0 B0 hW0 hB0
  obtain ⟨P, hP⟩ : ∃ P : Pl, P = ⟨o, b, q, l⟩ := ⟨_, rfl⟩
  have eo : o = P.o := by rw [hP]
  have eb : b = P.b := by rw [hP]
  have eq : q = P.q := by rw [hP]
  have el : l = P.l := by rw [hP]
  rw [← hP] at hp
  rw [eo, eb, el] at hW0 ⊢
  rw [eq] at hM
  rw [eo] at ho
  rw [el] at hl
  clear eo eb eq el hP hI
  unfold Out
  by_cases hbig : 1000 < M
  · have hb1 : (1000 : Int) < (M : Int) := by omega
    have HP0 := hid hp
    have HB0 := hid hb0
    clear hp hb0 hM hbig
    go_enter Try.func4, Try.ntmps4
    go_upto_region 1 with fail
    rw [← hW0, ← hB0]
    clear hW0 hB0
    go_wp2_with fail
    refine Calls.mono (h8.out _) ?_
    rintro e w1 ⟨rfl, hb⟩
    have HP1 := hid (HP0.out.below hb)
    have HB1 := hid (HB0.out.trans (hb.mono HB0.out.size))
    have c2 := HP1.out.blk.cell 2
    simp only [List.getElem?_cons_zero, List.getElem?_cons_succ] at c2
    clear hb
    go_wp2_with fail
    refine Calls.mono (h8.out _) ?_
    rintro e w2 ⟨rfl, hb⟩
    have HB2 := hid (HB1.out.trans (hb.mono HB1.out.size))
    clear hb
    go_wp2
    go_ret
    exact ⟨rfl, HB2.out⟩
  have hb1 : ((1000 : Int) < (M : Int)) = False := by simp; omega
  have hq : P.q.length ≤ 1000 := by omega
  have hM1 : M ≤ 1000000 := by omega
  have HK : Hid (M ≤ 1000000) := hM1
  obtain ⟨Na, hNa⟩ : ∃ n, n = (tr P k).q.length := ⟨_, rfl⟩
  have HLNa : Hid (Na ≤ 1000000) := hid (by rw [hNa]; exact tr_len P k hq)
  obtain ⟨Nc, hNc⟩ : ∃ n, n = (wk P).q.length := ⟨_, rfl⟩
  have HLNc : Hid (Nc ≤ 1000000) := hid (by rw [hNc]; exact wk_len P hq)
  obtain ⟨Ng, hNg⟩ : ∃ n, n = (pp P).q.length := ⟨_, rfl⟩
  have HLNg : Hid (Ng ≤ 1000000) := hid (by rw [hNg]; exact pp_len P hq)
  obtain ⟨Ne, hNe⟩ : ∃ n, n = (earn P ld0).q.length := ⟨_, rfl⟩
  have HLNe : Hid (Ne ≤ 1000000) := hid (by rw [hNe]; exact earn_len P ld0 hq)
  have h13 : Hid (∀ W s c, IntsAt W (.slice s M c) P.q → Calls Try.prog 13 #[.agg #[.int .i64 P.o, .bool P.b, .slice s M c, .int .i64 P.l]] W fun e w' => ∃ s' c', e = .returned (.agg #[.int .i64 P.o, .bool P.b, .slice s' M c', .int .i64 P.l]) ∧ IntsAt w' (.slice s' M c') P.q ∧ Below W.heap.size W w') := fun W s c h => by
    refine (copied_any P.o P.b P.q P.l s c M W h hM hM1).mono ?_
    rintro e w' ⟨s', c', rfl, ho, hb⟩
    exact ⟨s', c', rfl, ho.ints, hb⟩
  have h14 : Hid (∀ W s c, IntsAt W (.slice s M c) P.q → Calls Try.prog 14 #[.agg #[.int .i64 P.o, .bool P.b, .slice s M c, .int .i64 P.l], .int .i64 k] W fun e w' => ∃ s' n' c', n' = Na ∧ e = .returned (.tuple #[.agg #[.int .i64 (tr P k).o, .bool (tr P k).b, .slice s' n' c', .int .i64 (tr P k).l], .int .i64 (trE P k)]) ∧ IntsAt w' (.slice s' n' c') (tr P k).q ∧ Below W.heap.size W w') := fun W s c h => by
    refine (train_any P.o P.b P.q P.l k s c M W h hM hM1 ho).mono ?_
    rintro e w' ⟨s', n', c', hn, rfl, hi, hb⟩
    exact ⟨s', n', c', hn.trans hNa.symm, rfl, hi.1, hb⟩
  have h15 : Hid (∀ W s c, IntsAt W (.slice s M c) P.q → Calls Try.prog 15 #[.agg #[.int .i64 P.o, .bool P.b, .slice s M c, .int .i64 P.l], .int .i64 k] W fun e w' => ∃ s' n' c', n' = Na ∧ e = .returned (.tuple #[.agg #[.int .i64 (tr P k).o, .bool (tr P k).b, .slice s' n' c', .int .i64 (tr P k).l], .int .i64 (trE P k)]) ∧ IntsAt w' (.slice s' n' c') (tr P k).q ∧ Below W.heap.size W w') := fun W s c h => by
    refine (refTrain_any P.o P.b P.q P.l k s c M W h hM hM1 ho).mono ?_
    rintro e w' ⟨s', n', c', hn, rfl, hi, hb⟩
    exact ⟨s', n', c', hn.trans hNa.symm, rfl, hi.1, hb⟩
  have h16 : Hid (∀ W s c, IntsAt W (.slice s M c) P.q → Calls Try.prog 16 #[.agg #[.int .i64 P.o, .bool P.b, .slice s M c, .int .i64 P.l]] W fun e w' => ∃ s' n' c', n' = Nc ∧ e = .returned (.tuple #[.agg #[.int .i64 (wk P).o, .bool (wk P).b, .slice s' n' c', .int .i64 (wk P).l], .int .i64 (wkV P)]) ∧ IntsAt w' (.slice s' n' c') (wk P).q ∧ Below W.heap.size W w') := fun W s c h => by
    refine (work_any P.o P.b P.q P.l  s c M W h hM hM1 hl).mono ?_
    rintro e w' ⟨s', n', c', hn, rfl, hi, hb⟩
    exact ⟨s', n', c', hn.trans hNc.symm, rfl, hi.1, hb⟩
  have h17 : Hid (∀ W s c, IntsAt W (.slice s M c) P.q → Calls Try.prog 17 #[.agg #[.int .i64 P.o, .bool P.b, .slice s M c, .int .i64 P.l]] W fun e w' => ∃ s' n' c', n' = Nc ∧ e = .returned (.tuple #[.agg #[.int .i64 (wk P).o, .bool (wk P).b, .slice s' n' c', .int .i64 (wk P).l], .int .i64 (wkV P)]) ∧ IntsAt w' (.slice s' n' c') (wk P).q ∧ Below W.heap.size W w') := fun W s c h => by
    refine (refWork_any P.o P.b P.q P.l  s c M W h hM hM1 hl).mono ?_
    rintro e w' ⟨s', n', c', hn, rfl, hi, hb⟩
    exact ⟨s', n', c', hn.trans hNc.symm, rfl, hi.1, hb⟩
  have h18 : Hid (∀ W s c, IntsAt W (.slice s M c) P.q → Calls Try.prog 18 #[.agg #[.int .i64 P.o, .bool P.b, .slice s M c, .int .i64 P.l]] W fun e w' => ∃ s' n' c', n' = Ng ∧ e = .returned (.tuple #[.agg #[.int .i64 (pp P).o, .bool (pp P).b, .slice s' n' c', .int .i64 (pp P).l], .int .i64 (ppE P)]) ∧ IntsAt w' (.slice s' n' c') (pp P).q ∧ Below W.heap.size W w') := fun W s c h => by
    refine (pop_any P.o P.b P.q P.l  s c M W h hM hM1 ).mono ?_
    rintro e w' ⟨s', n', c', hn, rfl, hi, hb⟩
    exact ⟨s', n', c', hn.trans hNg.symm, rfl, hi.1, hb⟩
  have h19 : Hid (∀ W s c, IntsAt W (.slice s M c) P.q → Calls Try.prog 19 #[.agg #[.int .i64 P.o, .bool P.b, .slice s M c, .int .i64 P.l]] W fun e w' => ∃ s' n' c', n' = Ng ∧ e = .returned (.tuple #[.agg #[.int .i64 (pp P).o, .bool (pp P).b, .slice s' n' c', .int .i64 (pp P).l], .int .i64 (ppE P)]) ∧ IntsAt w' (.slice s' n' c') (pp P).q ∧ Below W.heap.size W w') := fun W s c h => by
    refine (refPop_any P.o P.b P.q P.l  s c M W h hM hM1 ).mono ?_
    rintro e w' ⟨s', n', c', hn, rfl, hi, hb⟩
    exact ⟨s', n', c', hn.trans hNg.symm, rfl, hi.1, hb⟩
  have h21 : Hid (∀ W s c, IntsAt W (.slice s M c) P.q → Calls Try.prog 21 #[.agg #[.int .i64 P.o, .bool P.b, .slice s M c, .int .i64 P.l], .int .i64 ld0] W fun e w' => ∃ s' n' c', n' = Ne ∧ e = .returned (.agg #[.int .i64 (earn P ld0).o, .bool (earn P ld0).b, .slice s' n' c', .int .i64 (earn P ld0).l]) ∧ IntsAt w' (.slice s' n' c') (earn P ld0).q ∧ Below W.heap.size W w') := fun W s c h => by
    refine (earn_any P.o P.b P.q P.l ld0 s c M W h hM hM1 ho).mono ?_
    rintro e w' ⟨s', n', c', hn, rfl, hi, hb⟩
    exact ⟨s', n', c', hn.trans hNe.symm, rfl, hi.1, hb⟩
  have h22 : Hid (∀ W s c, IntsAt W (.slice s M c) P.q → Calls Try.prog 22 #[.agg #[.int .i64 P.o, .bool P.b, .slice s M c, .int .i64 P.l], .int .i64 ld0] W fun e w' => ∃ s' n' c', n' = Ne ∧ e = .returned (.agg #[.int .i64 (earn P ld0).o, .bool (earn P ld0).b, .slice s' n' c', .int .i64 (earn P ld0).l]) ∧ IntsAt w' (.slice s' n' c') (earn P ld0).q ∧ Below W.heap.size W w') := fun W s c h => by
    refine (refEarn_any P.o P.b P.q P.l ld0 s c M W h hM hM1 ho).mono ?_
    rintro e w' ⟨s', n', c', hn, rfl, hi, hb⟩
    exact ⟨s', n', c', hn.trans hNe.symm, rfl, hi.1, hb⟩
  have h20 : Hid (∀ (R : Pl) W s n c s' c', IntsAt W (.slice s n c) R.q → IntsAt W (.slice s' n c') R.q → n ≤ 1000000 → Calls Try.prog 20 #[.agg #[.int .i64 R.o, .bool R.b, .slice s n c, .int .i64 R.l], .agg #[.int .i64 R.o, .bool R.b, .slice s' n c', .int .i64 R.l]] W fun e w' => e = .returned (.bool true) ∧ Below W.heap.size W w') := fun R W s n c s' c' h h' hn => same_any R.o R.b R.q R.l s s' c c' n W h h' hn
  clear hNa hNc hNg hNe
  generalize tr P k = Pa at *
  generalize wk P = Pc at *
  generalize pp P = Pg at *
  generalize earn P ld0 = Pe at *
  generalize trE P k = X1 at *
  generalize wkV P = X2 at *
  generalize ppE P = X3 at *
  have HP0 := hid hp
  have HB0 := hid hb0
  clear hp hb0 hM hbig hq hM1 ho hl
  go_enter Try.func4, Try.ntmps4
  go_upto_region 1 with fail
  rw [← hW0, ← hB0]
  clear hW0 hB0
  go_wp2_with fail
  refine Calls.mono (h8.out _) ?_
  rintro e w1 ⟨rfl, hb⟩
  have HP1 := hid (HP0.out.below hb)
  have HB1 := hid (HB0.out.trans (hb.mono HB0.out.size))
  clear hb HP0 HB0 h8
  have c0 : w1.cell? ⟨B0, 0, none⟩ = some (.int .i64 P.o) := HP1.out.blk.cell 0
  have c1 : w1.cell? ⟨B0, 1, none⟩ = some (.bool P.b) := HP1.out.blk.cell 1
  have c2 : w1.cell? ⟨B0, 2, none⟩ = some (.slice s M cap) := HP1.out.blk.cell 2
  have c3 : w1.cell? ⟨B0, 3, none⟩ = some (.int .i64 P.l) := HP1.out.blk.cell 3
  go_wp2_with fail
  refine Calls.mono (h13.out _ s cap HP1.out.ints) ?_
  rintro e w2 ⟨s1, c1', rfl, hi, hb⟩
  clear c0 c1 c2 c3
  go_upto_region 4 with fail
  obtain ⟨w3, hw3⟩ : ∃ x, x = w2.alloc (.cells #[.int .i64 P.o, .bool P.b, .slice s1 M c1', .int .i64 P.l] 36) := ⟨_, rfl⟩
  obtain ⟨B1, hB1⟩ : ∃ x, x = w2.heap.size := ⟨_, rfl⟩
  rw [← hw3, ← hB1]
  obtain ⟨hp, hbn⟩ := PBox.new (p := P) hi w3 B1 hw3 hB1
  have HQ1 := hid hp
  have hbb := hb.trans (hbn.mono hb.size)
  have HB3 := hid (HB1.out.trans (hbb.mono HB1.out.size))
  replace HP1 := hid (HP1.out.below hbb)
  clear hw3 hB1 hi hb hp hbn hbb HB1
  have c0 : w3.cell? ⟨B1, 0, none⟩ = some (.int .i64 P.o) := HQ1.out.blk.cell 0
  have c1 : w3.cell? ⟨B1, 1, none⟩ = some (.bool P.b) := HQ1.out.blk.cell 1
  have c2 : w3.cell? ⟨B1, 2, none⟩ = some (.slice s1 M c1') := HQ1.out.blk.cell 2
  have c3 : w3.cell? ⟨B1, 3, none⟩ = some (.int .i64 P.l) := HQ1.out.blk.cell 3
  go_wp2_with fail
  refine Calls.mono (h14.out _ s1 c1' HQ1.out.ints) ?_
  rintro e w4 ⟨s2, n2, c2', hn2, rfl, hi, hb⟩
  replace hn2 := hn2.symm
  subst hn2
  clear c0 c1 c2 c3
  go_upto_region 5 with fail
  obtain ⟨w5, hw5⟩ : ∃ x, x = w4.alloc (.cells #[.int .i64 Pa.o, .bool Pa.b, .slice s2 Na c2', .int .i64 Pa.l] 36) := ⟨_, rfl⟩
  obtain ⟨B2, hB2⟩ : ∃ x, x = w4.heap.size := ⟨_, rfl⟩
  rw [← hw5, ← hB2]
  obtain ⟨hp, hbn⟩ := PBox.new (p := Pa) hi w5 B2 hw5 hB2
  have HQ2 := hid hp
  have hbb := hb.trans (hbn.mono hb.size)
  have HB5 := hid (HB3.out.trans (hbb.mono HB3.out.size))
  replace HP1 := hid (HP1.out.below hbb)
  replace HQ1 := hid (HQ1.out.below hbb)
  clear hw5 hB2 hi hb hp hbn hbb HB3
  have c0 : w5.cell? ⟨B0, 0, none⟩ = some (.int .i64 P.o) := HP1.out.blk.cell 0
  have c1 : w5.cell? ⟨B0, 1, none⟩ = some (.bool P.b) := HP1.out.blk.cell 1
  have c2 : w5.cell? ⟨B0, 2, none⟩ = some (.slice s M cap) := HP1.out.blk.cell 2
  have c3 : w5.cell? ⟨B0, 3, none⟩ = some (.int .i64 P.l) := HP1.out.blk.cell 3
  go_wp2_with fail
  refine Calls.mono (h15.out _ s cap HP1.out.ints) ?_
  rintro e w6 ⟨s3, n3, c3', hn3, rfl, hi, hb⟩
  replace hn3 := hn3.symm
  subst hn3
  clear c0 c1 c2 c3
  go_upto_region 6 with fail
  obtain ⟨w7, hw7⟩ : ∃ x, x = w6.alloc (.cells #[.int .i64 Pa.o, .bool Pa.b, .slice s3 Na c3', .int .i64 Pa.l] 36) := ⟨_, rfl⟩
  obtain ⟨B3, hB3⟩ : ∃ x, x = w6.heap.size := ⟨_, rfl⟩
  rw [← hw7, ← hB3]
  obtain ⟨hp, hbn⟩ := PBox.new (p := Pa) hi w7 B3 hw7 hB3
  have HQ3 := hid hp
  have hbb := hb.trans (hbn.mono hb.size)
  have HB7 := hid (HB5.out.trans (hbb.mono HB5.out.size))
  replace HP1 := hid (HP1.out.below hbb)
  replace HQ1 := hid (HQ1.out.below hbb)
  replace HQ2 := hid (HQ2.out.below hbb)
  clear hw7 hB3 hi hb hp hbn hbb HB5
  have c0 : w7.cell? ⟨B1, 0, none⟩ = some (.int .i64 P.o) := HQ1.out.blk.cell 0
  have c1 : w7.cell? ⟨B1, 1, none⟩ = some (.bool P.b) := HQ1.out.blk.cell 1
  have c2 : w7.cell? ⟨B1, 2, none⟩ = some (.slice s1 M c1') := HQ1.out.blk.cell 2
  have c3 : w7.cell? ⟨B1, 3, none⟩ = some (.int .i64 P.l) := HQ1.out.blk.cell 3
  go_wp2_with fail
  refine Calls.mono (h16.out _ s1 c1' HQ1.out.ints) ?_
  rintro e w8 ⟨s4, n4, c4', hn4, rfl, hi, hb⟩
  replace hn4 := hn4.symm
  subst hn4
  clear c0 c1 c2 c3
  go_upto_region 7 with fail
  obtain ⟨w9, hw9⟩ : ∃ x, x = w8.alloc (.cells #[.int .i64 Pc.o, .bool Pc.b, .slice s4 Nc c4', .int .i64 Pc.l] 36) := ⟨_, rfl⟩
  obtain ⟨B4, hB4⟩ : ∃ x, x = w8.heap.size := ⟨_, rfl⟩
  rw [← hw9, ← hB4]
  obtain ⟨hp, hbn⟩ := PBox.new (p := Pc) hi w9 B4 hw9 hB4
  have HQ4 := hid hp
  have hbb := hb.trans (hbn.mono hb.size)
  have HB9 := hid (HB7.out.trans (hbb.mono HB7.out.size))
  replace HP1 := hid (HP1.out.below hbb)
  replace HQ1 := hid (HQ1.out.below hbb)
  replace HQ2 := hid (HQ2.out.below hbb)
  replace HQ3 := hid (HQ3.out.below hbb)
  clear hw9 hB4 hi hb hp hbn hbb HB7
  have c0 : w9.cell? ⟨B0, 0, none⟩ = some (.int .i64 P.o) := HP1.out.blk.cell 0
  have c1 : w9.cell? ⟨B0, 1, none⟩ = some (.bool P.b) := HP1.out.blk.cell 1
  have c2 : w9.cell? ⟨B0, 2, none⟩ = some (.slice s M cap) := HP1.out.blk.cell 2
  have c3 : w9.cell? ⟨B0, 3, none⟩ = some (.int .i64 P.l) := HP1.out.blk.cell 3
  go_wp2_with fail
  refine Calls.mono (h17.out _ s cap HP1.out.ints) ?_
  rintro e w10 ⟨s5, n5, c5', hn5, rfl, hi, hb⟩
  replace hn5 := hn5.symm
  subst hn5
  clear c0 c1 c2 c3
  go_upto_region 8 with fail
  obtain ⟨w11, hw11⟩ : ∃ x, x = w10.alloc (.cells #[.int .i64 Pc.o, .bool Pc.b, .slice s5 Nc c5', .int .i64 Pc.l] 36) := ⟨_, rfl⟩
  obtain ⟨B5, hB5⟩ : ∃ x, x = w10.heap.size := ⟨_, rfl⟩
  rw [← hw11, ← hB5]
  obtain ⟨hp, hbn⟩ := PBox.new (p := Pc) hi w11 B5 hw11 hB5
  have HQ5 := hid hp
  have hbb := hb.trans (hbn.mono hb.size)
  have HB11 := hid (HB9.out.trans (hbb.mono HB9.out.size))
  replace HP1 := hid (HP1.out.below hbb)
  replace HQ1 := hid (HQ1.out.below hbb)
  replace HQ2 := hid (HQ2.out.below hbb)
  replace HQ3 := hid (HQ3.out.below hbb)
  replace HQ4 := hid (HQ4.out.below hbb)
  clear hw11 hB5 hi hb hp hbn hbb HB9
  have c0 : w11.cell? ⟨B1, 0, none⟩ = some (.int .i64 P.o) := HQ1.out.blk.cell 0
  have c1 : w11.cell? ⟨B1, 1, none⟩ = some (.bool P.b) := HQ1.out.blk.cell 1
  have c2 : w11.cell? ⟨B1, 2, none⟩ = some (.slice s1 M c1') := HQ1.out.blk.cell 2
  have c3 : w11.cell? ⟨B1, 3, none⟩ = some (.int .i64 P.l) := HQ1.out.blk.cell 3
  go_wp2_with fail
  refine Calls.mono (h18.out _ s1 c1' HQ1.out.ints) ?_
  rintro e w12 ⟨s6, n6, c6', hn6, rfl, hi, hb⟩
  replace hn6 := hn6.symm
  subst hn6
  clear c0 c1 c2 c3
  go_upto_region 9 with fail
  obtain ⟨w13, hw13⟩ : ∃ x, x = w12.alloc (.cells #[.int .i64 Pg.o, .bool Pg.b, .slice s6 Ng c6', .int .i64 Pg.l] 36) := ⟨_, rfl⟩
  obtain ⟨B6, hB6⟩ : ∃ x, x = w12.heap.size := ⟨_, rfl⟩
  rw [← hw13, ← hB6]
  obtain ⟨hp, hbn⟩ := PBox.new (p := Pg) hi w13 B6 hw13 hB6
  have HQ6 := hid hp
  have hbb := hb.trans (hbn.mono hb.size)
  have HB13 := hid (HB11.out.trans (hbb.mono HB11.out.size))
  replace HP1 := hid (HP1.out.below hbb)
  replace HQ1 := hid (HQ1.out.below hbb)
  replace HQ2 := hid (HQ2.out.below hbb)
  replace HQ3 := hid (HQ3.out.below hbb)
  replace HQ4 := hid (HQ4.out.below hbb)
  replace HQ5 := hid (HQ5.out.below hbb)
  clear hw13 hB6 hi hb hp hbn hbb HB11
  have c0 : w13.cell? ⟨B0, 0, none⟩ = some (.int .i64 P.o) := HP1.out.blk.cell 0
  have c1 : w13.cell? ⟨B0, 1, none⟩ = some (.bool P.b) := HP1.out.blk.cell 1
  have c2 : w13.cell? ⟨B0, 2, none⟩ = some (.slice s M cap) := HP1.out.blk.cell 2
  have c3 : w13.cell? ⟨B0, 3, none⟩ = some (.int .i64 P.l) := HP1.out.blk.cell 3
  go_wp2_with fail
  refine Calls.mono (h19.out _ s cap HP1.out.ints) ?_
  rintro e w14 ⟨s7, n7, c7', hn7, rfl, hi, hb⟩
  replace hn7 := hn7.symm
  subst hn7
  clear c0 c1 c2 c3
  go_upto_region 10 with fail
  obtain ⟨w15, hw15⟩ : ∃ x, x = w14.alloc (.cells #[.int .i64 Pg.o, .bool Pg.b, .slice s7 Ng c7', .int .i64 Pg.l] 36) := ⟨_, rfl⟩
  obtain ⟨B7, hB7⟩ : ∃ x, x = w14.heap.size := ⟨_, rfl⟩
  rw [← hw15, ← hB7]
  obtain ⟨hp, hbn⟩ := PBox.new (p := Pg) hi w15 B7 hw15 hB7
  have HQ7 := hid hp
  have hbb := hb.trans (hbn.mono hb.size)
  have HB15 := hid (HB13.out.trans (hbb.mono HB13.out.size))
  replace HP1 := hid (HP1.out.below hbb)
  replace HQ1 := hid (HQ1.out.below hbb)
  replace HQ2 := hid (HQ2.out.below hbb)
  replace HQ3 := hid (HQ3.out.below hbb)
  replace HQ4 := hid (HQ4.out.below hbb)
  replace HQ5 := hid (HQ5.out.below hbb)
  replace HQ6 := hid (HQ6.out.below hbb)
  clear hw15 hB7 hi hb hp hbn hbb HB13
  obtain ⟨n0a, n0b, n0c, n0d⟩ := HP1.out.nx
  obtain ⟨n1a, n1b, n1c, n1d⟩ := HQ1.out.nx
  obtain ⟨n2a, n2b, n2c, n2d⟩ := HQ2.out.nx
  obtain ⟨n3a, n3b, n3c, n3d⟩ := HQ3.out.nx
  obtain ⟨n4a, n4b, n4c, n4d⟩ := HQ4.out.nx
  obtain ⟨n5a, n5b, n5c, n5d⟩ := HQ5.out.nx
  obtain ⟨n6a, n6b, n6c, n6d⟩ := HQ6.out.nx
  obtain ⟨n7a, n7b, n7c, n7d⟩ := HQ7.out.nx
  have HV : Hid (Below w15.heap.size w15 w15.drew) := Below.drewN (Below.refl _ _) 1
  refine wp_region_calm (S := fun w' => ∃ x : Nx w15, w' = x.w) ((0, false) :: (1, false) :: (2, false) :: (3, false) :: (4, false) :: (5, false) :: (6, true) :: (7, false) :: (8, false) :: (9, false) :: (10, false) :: (11, false) :: (12, false) :: (13, false) :: (14, false) :: (15, false) :: (16, true) :: (17, false) :: (18, false) :: (19, false) :: (20, false) :: (21, false) :: (22, false) :: (23, false) :: (24, false) :: (25, false) :: (26, true) :: (27, false) :: (28, false) :: (29, false) :: (30, false) :: (32, false) :: (33, false) :: (31, true) :: (34, true) :: (35, true) :: (36, false) :: (37, false) :: (38, false) :: (39, false) :: (40, true) :: (41, false) :: (42, false) :: []) rfl (by kernel_rfl) (by kernel_rfl) (by kernel_rfl) ⟨⟨w15.drew, HV.out⟩, rfl⟩ ?_
  obtain ⟨P0, hP0⟩ : ∃ P0, P0 = w15.drew := ⟨_, rfl⟩
  rw [← hP0] at HV ⊢
  clear hP0
  iterate 6 (refine plan_take rfl (fun K hK => ?_); go_simp; (first | (refine ⟨_, fun _ => rfl, hK _ ?_⟩) | (refine hK _ ?_)); clear hK K)
  refine plan_turn rfl (fun K hK => ?_)
  go_simp
  refine Calls.mono (h20.out Pa _ _ _ _ _ _ (HQ2.out.below HV.out).ints (HQ3.out.below HV.out).ints HLNa.out) ?_
  rintro _ x1 ⟨rfl, hw⟩
  have HX1 : Hid (Below w15.heap.size w15 x1) := HV.out.trans (hw.mono HV.out.size)
  refine hK _ _ ⟨⟨x1, HX1.out⟩, rfl⟩ ?_
  clear hK K
  clear hw
  iterate 9 (refine plan_take rfl (fun K hK => ?_); go_simp; (first | (refine ⟨_, fun _ => rfl, hK _ ?_⟩) | (refine hK _ ?_)); clear hK K)
  refine plan_turn rfl (fun K hK => ?_)
  go_simp
  refine Calls.mono (h20.out Pc _ _ _ _ _ _ (HQ4.out.below HX1.out).ints (HQ5.out.below HX1.out).ints HLNc.out) ?_
  rintro _ x2 ⟨rfl, hw⟩
  have HX2 : Hid (Below w15.heap.size w15 x2) := HX1.out.trans (hw.mono HX1.out.size)
  refine hK _ _ ⟨⟨x2, HX2.out⟩, rfl⟩ ?_
  clear hK K
  clear hw
  iterate 9 (refine plan_take rfl (fun K hK => ?_); go_simp; (first | (refine ⟨_, fun _ => rfl, hK _ ?_⟩) | (refine hK _ ?_)); clear hK K)
  refine plan_turn rfl (fun K hK => ?_)
  go_simp
  refine Calls.mono (h20.out Pg _ _ _ _ _ _ (HQ6.out.below HX2.out).ints (HQ7.out.below HX2.out).ints HLNg.out) ?_
  rintro _ x3 ⟨rfl, hw⟩
  have HX3 : Hid (Below w15.heap.size w15 x3) := HX2.out.trans (hw.mono HX2.out.size)
  refine hK _ _ ⟨⟨x3, HX3.out⟩, rfl⟩ ?_
  clear hK K
  clear hw
  iterate 6 (refine plan_take rfl (fun K hK => ?_); go_simp; (first | (refine ⟨_, fun _ => rfl, hK _ ?_⟩) | (refine hK _ ?_)); clear hK K)
  refine plan_turn rfl (fun K hK => ?_)
  go_simp
  refine Calls.mono (h21.out _ _ _ (HQ1.out.below HX3.out).ints) ?_
  rintro _ x4 ⟨s9, n9, c9, hn9, rfl, hi9, hw⟩
  have HX4 : Hid (Below w15.heap.size w15 x4) := HX3.out.trans (hw.mono HX3.out.size)
  refine hK _ _ ⟨⟨x4, HX4.out⟩, rfl⟩ ?_
  clear hK K
  replace hn9 := hn9.symm
  subst hn9
  clear hw
  refine plan_turn rfl (fun K hK => ?_)
  go_simp
  refine Calls.mono (h22.out _ _ _ (HP1.out.below HX4.out).ints) ?_
  rintro _ x5 ⟨s10, n10, c10, hn10, rfl, hi10, hw⟩
  have HX5 : Hid (Below w15.heap.size w15 x5) := HX4.out.trans (hw.mono HX4.out.size)
  refine hK _ _ ⟨⟨x5, HX5.out⟩, rfl⟩ ?_
  clear hK K
  replace hn10 := hn10.symm
  subst hn10
  have hj9 := hid (hi9.below hw)
  clear hw hi9
  refine plan_turn rfl (fun K hK => ?_)
  go_simp
  refine Calls.mono (h20.out Pe _ _ _ _ _ _ hj9.out hi10 HLNe.out) ?_
  rintro _ x6 ⟨rfl, hw⟩
  have HX6 : Hid (Below w15.heap.size w15 x6) := HX5.out.trans (hw.mono HX5.out.size)
  refine hK _ _ ⟨⟨x6, HX6.out⟩, rfl⟩ ?_
  clear hK K
  clear hw hi10 hj9
  iterate 4 (refine plan_take rfl (fun K hK => ?_); go_simp; (first | (refine ⟨_, fun _ => rfl, hK _ ?_⟩) | (refine hK _ ?_)); clear hK K)
  refine plan_turn rfl (fun K hK => ?_)
  go_simp
  refine Calls.mono (h20.out P _ _ _ _ _ _ (HQ1.out.below HX6.out).ints (HP1.out.below HX6.out).ints HK.out) ?_
  rintro _ x7 ⟨rfl, hw⟩
  have HX7 : Hid (Below w15.heap.size w15 x7) := HX6.out.trans (hw.mono HX6.out.size)
  refine hK _ _ ⟨⟨x7, HX7.out⟩, rfl⟩ ?_
  clear hK K
  clear hw
  iterate 2 (refine plan_take rfl (fun K hK => ?_); go_simp; (first | (refine ⟨_, fun _ => rfl, hK _ ?_⟩) | (refine hK _ ?_)); clear hK K)
  refine plan_done ⟨rfl, ?_⟩
  go_wp2
  go_ret
  exact ⟨rfl, HB15.out.trans (HX7.out.mono HB15.out.size)⟩
end Go.Proofs.Ytjkcmedmojidgaa
