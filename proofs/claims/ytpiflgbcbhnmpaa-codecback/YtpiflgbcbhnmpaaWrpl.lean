/- What appendList answers of blocks; what Replay answers. -/
import Derived.Test.YtpiflgbcbhnmpaaWrep
namespace Go.Proofs.Ytpiflgbcbhnmpaa
open Go.RowKit
attribute [local go_sem ↓] zv39
theorem flat_len {α : Type} (f : α → List Nat) (k : Nat) : ∀ (l : List α), (∀ x ∈ l, (f x).length ≤ k) → (l.flatMap f).length ≤ k * l.length
  | [], _ => by simp
  | x :: r, h => by
    have h1 := flat_len f k r (fun y hy => h y (by simp [hy]))
    have h2 := h x (by simp)
    rw [List.flatMap_cons, List.length_append, List.length_cons, Nat.mul_add]
    omega
theorem c6_len {c : C6} (h : c.Nn) : c.bytes.length ≤ 60 := by
  obtain ⟨k0, k1, u0, u1, t0, t1, h0, h1', x0, x1, y0, y1⟩ := h
  exact cmdB_len c.k.toNat c.u.toNat c.t.toNat c.h.toNat c.x.toNat c.y.toNat (by omega) (by omega) (by omega) (by omega) (by omega) (by omega)
theorem sd_len2 {d : Sd} (h : d.ok = true) (ht : d.tag.length = 32) : d.bytes.length ≤ 400 := by
  have hn := Sd.nn h ht
  have h5 : d.cs.length ≤ 5 := by
    simp only [Sd.ok, cmdsOk, Bool.and_eq_true, decide_eq_true_eq] at h
    exact h.2.1
  have l1 := sev_len10 hn.m
  have l2 := sev_len10 (n := d.pl.toNat) (by have := hn.p1; omega)
  have l3 := sev_len10 (n := d.tn.toNat) (by have := hn.t1; omega)
  have l4 : (sev (if d.em then 1 else 0)).length ≤ 10 := sev_len10 (by split <;> omega)
  have l5 := sev_len10 (n := d.cs.length) (by omega)
  have l6 := flat_len C6.bytes 60 d.cs (fun c hc => c6_len (hn.cs c hc))
  simp only [Sd.bytes, Sd.body, cmdsB, List.length_append]
  omega
theorem bk_len {k : Bk} (h : k.ok = true) (hf : BkFit k) : k.bytes.length ≤ 2000 := by
  have hn := Bk.nn h hf
  have h4 : k.ds.length ≤ 4 ∧ ∀ d ∈ k.ds, d.ok = true := by
    simp only [Bk.ok, sdsOk, Bool.and_eq_true, decide_eq_true_eq, List.all_eq_true] at h
    exact h.2
  have l1 := sev_len10 (n := k.tn.toNat) (by have := hn.t1; omega)
  have l2 := sev_len10 (n := k.ds.length) (by omega)
  have l3 := flat_len Sd.bytes 400 k.ds (fun d hd => sd_len2 (h4.2 d hd) (hf.d d hd).2.1)
  have := hn.p
  have := hn.r
  have := hn.s
  simp only [Bk.bytes, sdsB, List.length_append]
  omega
def bksB (ks : List Bk) : List Nat := sev ks.length ++ ks.flatMap Bk.bytes
set_option maxRecDepth 100000 in
set_option maxHeartbeats 4000000 in
theorem appendList101 (ds : List Bk) (hds : ∀ d ∈ ds, d.ok = true ∧ BkFit d) (hdl : ds.length < 100) (xs : List Nat) (base : Nat) (p : Option Addr) (M cap : Nat) (q : Option Addr) (N qc : Nat) (w : World) (hM : M = xs.length) (hN : N = ds.length) (ho : OwnB w base (.slice p M cap) xs) (hbase : base ≤ w.heap.size) (hsz : M < 100000) (hC : BksLo w base (.slice q N qc) ds) :
    Calls Try.prog 101 #[.slice p M cap, .slice q N qc, .func (.func 61) #[] #[]] w fun e w' => OutG w (.slice p M cap) base (xs ++ bksB ds) e w' := by
  have hc1 := hid (appendInt85 N (by omega) xs base p M cap w hM ho hbase (by omega))
  have hcall := hid (show ∀ (d : Bk) (q : Option Addr) (c : Nat) (L : List Nat) (p1 : Option Addr) (N1 c1 : Nat) (W : World), (d.ok = true ∧ BkFit d) → SdsLo W base (.slice q d.ds.length c) d.ds → N1 = L.length → OwnB W base (.slice p1 N1 c1) L → base ≤ W.heap.size → N1 < 1000000 → Calls Try.prog 61 #[.slice p1 N1 c1, .agg (d.cells (.slice q d.ds.length c)).toArray] W fun e w' => OutG W (.slice p1 N1 c1) base (L ++ d.bytes) e w' ∧ d.bytes.length ≤ 2000 from fun d q c L p1 N1 c1 W hn hcm h1 h2 h3 h4 =>
    (appendBlock61 d (Bk.nn hn.1 hn.2) q d.ds.length c rfl L base p1 N1 c1 W h1 h2 h3 h4 hcm).mono fun _ _ h8 => ⟨h8, bk_len hn.1 hn.2⟩)
  have HN := hid hN
  have HDS := hid hds
  have HC := hid hC
  have HMM := hid hM
  have HOW := hid ho
  have hN1000 : N < 100 := by omega
  have HB := hid hbase
  clear hN hC hM ho hds hdl
  obtain ⟨v0, hv0⟩ : ∃ v0, v0 = Value.slice p M cap := ⟨_, rfl⟩
  have HV0 := hid hv0
  clear hv0
  go_enter Try.func101, Try.ntmps101
  go_wp2_with fail
  refine Calls.mono hc1.out ?_
  rintro e w1 ⟨p1, N1, c1, hN1, rfl, ho1, hg1⟩
  have hl10 := sev_len10 (n := N) (by omega)
  have hb1 : N1 ≤ M + 10 := by rw [hN1, List.length_append, ← HMM.out]; omega
  have HN1 := hid hN1
  have HO1 := hid ho1
  have HG1 := hid hg1
  clear hN1 ho1 hg1 hc1 hl10
  go_wp2_with fail
  go_loopw [0, 15] (fun v iv wr => ∃ (i : Nat) (p : Option Addr) (K c : Nat) (L : List Nat), v = .slice p K c ∧ iv = .int .i64 (i : Nat) ∧ i ≤ N ∧ K ≤ M + 10 + 2000 * i ∧ Hid (K = L.length) ∧ Hid (xs ++ bksB ds = L ++ (ds.drop i).flatMap Bk.bytes) ∧ Hid (OwnB wr base (.slice p K c) L) ∧ Hid (Gro w v0 wr (.slice p K c))) (fun _ iv _ => N - natOf iv)
  case atStart => exact ⟨0, p1, N1, c1, xs ++ sev N, rfl, rfl, by omega, by omega, HN1, by show _ = _; rw [List.drop_zero, List.append_assoc]; unfold bksB; rw [← HN.out], HO1, by rw [HV0.out]; exact HG1.out⟩
  case round =>
    clear HN1 HO1 HG1 hb1
    obtain ⟨i, p2, K, c2, L, rfl, rfl, hi, hK, hKL, hE, hO, hG⟩ := hrel
    have w1' : IntKind.i64.wrap ((i : Int) + 1) = (i : Int) + 1 := by rw [IntKind.wrap_i64]; omega
    by_cases hlt : i < N
    · have hlb : i < ds.length := by have := HN.out; omega
      obtain ⟨d, hdi⟩ : ∃ d, ds[i]? = some d := ⟨_, List.getElem?_eq_getElem hlb⟩
      have hGv : Gro w (.slice p M cap) wr (.slice p2 K c2) := by rw [← HV0.out]; exact hG.out
      have hbeW := hGv.below HOW.out HB.out
      obtain ⟨q', qc', ess, he, hel, hmem, hrow⟩ := HC.out.below hbeW
      simp at he
      obtain ⟨rfl, hNc, rfl⟩ := he
      clear hNc
      obtain ⟨b, o, rfl, hblt, hrg⟩ := hrow (by rintro rfl; simp at hlb)
      obtain ⟨E, hEi⟩ : ∃ E, ess[i]? = some E := ⟨_, List.getElem?_eq_getElem (by omega)⟩
      obtain ⟨hEl, q3, c3, hEd, hCm⟩ := hmem i d E hdi hEi
      have hr := hrg i E hEi
      have hcn := hid (HDS.out d (List.mem_of_getElem? hdi))
      have HE2 : Hid (xs ++ bksB ds = (L ++ d.bytes) ++ (ds.drop (i + 1)).flatMap Bk.bytes) := by
        show _ = _
        rw [hE.out, List.drop_eq_getElem_cons hlb, List.flatMap_cons, (List.getElem?_eq_some_iff.1 hdi).2, List.append_assoc]
      have e2 : (i : Int) < (N : Int) := by omega
      have e3 : (0 : Int) ≤ (i : Int) := by omega
      have hlo := hid (show base ≤ wr.heap.size from Nat.le_trans HB.out hGv.size)
      have hal : Below wr.heap.size wr (wr.alloc (.cells E.toArray 39)) := (Below.refl _ _).alloc (Nat.le_refl _) _
      have CL := hid (show Calls Try.prog 61 #[.slice p2 K c2, .agg E.toArray] (wr.alloc (.cells E.toArray 39)) fun e w' => OutG (wr.alloc (.cells E.toArray 39)) (.slice p2 K c2) base (L ++ d.bytes) e w' ∧ d.bytes.length ≤ 2000 from by
        have h9 := hcall.out d q3 c3 L p2 K c2 (wr.alloc (.cells E.toArray 39)) hcn.out (hCm.below (hal.mono hlo.out)) hKL.out (hO.out.below hal) (Nat.le_trans hlo.out hal.size) (by omega)
        rw [← hEd] at h9
        exact h9)
      have HGA := hid (hG.out.alloc (.cells E.toArray 39))
      have hi47 : (Try.prog.info? 39).map (·.size) = some E.length := by rw [hEl]; exact size39
      have hzl : z39.length = E.length := by rw [hEl]; exact bkL_length _ _ _ _ _ (zB_length 32) (zB_length 32) (zB_length 32)
      have honeE : Hid (∀ v ∈ E, v.oneCell' = true) := by
        rw [hEd]; intro v hv
        simp only [Bk.cells, bkL, List.mem_cons, List.mem_append, List.not_mem_nil, or_false] at hv
        rcases hv with rfl | hv | hv | hv | rfl
        · rfl
        · exact mapBy_one _ v hv
        · exact mapBy_one _ v hv
        · exact mapBy_one _ v hv
        · rfl
      have hrn := (Blk.new wr E 39).range
      generalize d.bytes = cb at *
      clear hrg hrow hdi hE hGv hcn hO hG hlo hbeW hmem hel hEi hEd hCm hal hblt
      go_wp2_with (first
        | ((with_reducible refine wpL_load 39 b (o + i * 98) E _ ?_ hr Try.underlying39 ?_ hi47 ?_); (rfl); (rfl); (simp only [Act.put, List.setIfInBounds_toArray, List.set_cons_zero, List.set_cons_succ]))
        | ((with_reducible refine wpL_new 39 z39 E zv39 hzl ?_ ?_ hi47 honeE.out ?_); (rfl); (rfl); (simp only [Act.put, List.setIfInBounds_toArray, List.set_cons_zero, List.set_cons_succ]))
        | ((with_reducible refine wpL_load 39 wr.heap.size 0 E _ ?_ hrn Try.underlying39 ?_ hi47 ?_); (rfl); (rfl); (simp only [Act.put, List.setIfInBounds_toArray, List.set_cons_zero, List.set_cons_succ]))
        | (go_at_call 61; refine Calls.mono CL.out ?_; rintro e w5 ⟨⟨p5, N5, c5, hN5, rfl, ho5, hg5⟩, hcb⟩; have hK5 : N5 ≤ M + 10 + 2000 * (i + 1) := (by rw [hN5, List.length_append, ← hKL.out]; omega); have HN5 := hid hN5; have HG5 := hid (HGA.out.trans hg5); clear hN5 hg5 hcb HGA))
      go_roundw
      case rel => exact ⟨i + 1, p5, N5, c5, L ++ cb, rfl, by go_num, by omega, hK5, HN5, HE2, ho5, HG5⟩
      case measure => simp [natOf]; omega
    · have e2 : ¬ (i : Int) < (N : Int) := by omega
      have HE2 : Hid (xs ++ bksB ds = L) := by
        show _ = _
        rw [hE.out, List.drop_eq_nil_of_le (by have := HN.out; omega)]; simp
      have HGF := hid (show Gro w (.slice p M cap) wr (.slice p2 K c2) by rw [← HV0.out]; exact hG.out)
      clear hE hG hcall
      go_wp2_with fail
      go_ret
      rw [HE2.out]
      exact ⟨p2, K, c2, hKL.out, rfl, hO.out, HGF.out⟩
set_option maxRecDepth 100000 in
theorem replayFormed80 (ks : List Bk) (hfit : ∀ k ∈ ks, BkFit k ∧ k.ds.length < 1000000000) (base : Nat) (p : Option Addr) (N cap : Nat) (w : World) (hN : N = ks.length) (h : BksLo w base (.slice p N cap) ks) (hbase : base ≤ w.heap.size) (hsz : N < 1000000000) :
    Calls Try.prog 80 #[.slice p N cap] w fun e w' => e = .returned (.bool (bksOk ks)) ∧ Below w.heap.size w w' := by
  have hc := hid (allFormed100 ks hfit base p N cap w hN h hbase hsz)
  clear h hN hfit
  generalize bksOk ks = b at *
  go_enter Try.func80, Try.ntmps80
  go_wp2_with fail
  refine Calls.mono hc.out ?_
  rintro e w1 ⟨rfl, hb1⟩
  go_wp2_with fail
  go_ret
  exact ⟨rfl, hb1⟩
set_option maxRecDepth 100000 in
theorem appendReplay81 (ds : List Bk) (hds : ∀ d ∈ ds, d.ok = true ∧ BkFit d) (hdl : ds.length < 100) (xs : List Nat) (base : Nat) (p : Option Addr) (M cap : Nat) (q : Option Addr) (N qc : Nat) (w : World) (hM : M = xs.length) (hN : N = ds.length) (ho : OwnB w base (.slice p M cap) xs) (hbase : base ≤ w.heap.size) (hsz : M < 100000) (hC : BksLo w base (.slice q N qc) ds) :
    Calls Try.prog 81 #[.slice p M cap, .slice q N qc] w fun e w' => OutG w (.slice p M cap) base (xs ++ bksB ds) e w' := by
  have hc := hid (appendList101 ds hds hdl xs base p M cap q N qc w hM hN ho hbase hsz hC)
  clear hC ho hM hN hds
  generalize xs ++ bksB ds = L at *
  go_enter Try.func81, Try.ntmps81
  go_wp2_with fail
  refine Calls.mono hc.out ?_
  rintro e w1 ⟨p1, N1, c1, hN1, rfl, ho1, hg1⟩
  have HN1 := hid hN1
  clear hN1
  go_wp2_with fail
  go_ret
  exact ⟨p1, N1, c1, HN1.out, rfl, ho1, hg1⟩
def repL (ks : List Bk) : List Nat := if bksOk ks then bksB ks else []
def repE (ks : List Bk) : Int := if bksOk ks then 0 else 4
set_option maxRecDepth 100000 in
theorem replay43 (ks : List Bk) (hfit : ∀ k ∈ ks, BkFit k ∧ k.ds.length < 1000000000) (p : Option Addr) (N cap : Nat) (w : World) (hN : N = ks.length) (h : BksLo w w.heap.size (.slice p N cap) ks) (hsz : N < 1000000000) :
    Calls Try.prog 43 #[.slice p N cap] w fun e w' => OutE w w.heap.size (repL ks) (repE ks) e w' := by
  have h80 := hid (replayFormed80 ks hfit w.heap.size p N cap w hN h (Nat.le_refl _) hsz)
  have h81 := hid (show bksOk ks = true → ∀ W, Below w.heap.size w W → Calls Try.prog 81 #[.slice none 0 0, .slice p N cap] W fun e w' => OutG W (.slice none 0 0) w.heap.size (bksB ks) e w' from fun hok W hW => by
    simp only [bksOk, Bool.and_eq_true, decide_eq_true_eq, List.all_eq_true] at hok
    have h9 := appendReplay81 ks (fun d hd => ⟨hok.2 d hd, (hfit d hd).1⟩) (by omega) [] w.heap.size none 0 0 p N cap W rfl hN (OwnB.nil _ _) hW.size (by omega) (h.below hW)
    rw [List.nil_append] at h9
    exact h9)
  have HL := hid (show ∀ b, b = bksOk ks → repL ks = (if b then bksB ks else []) ∧ repE ks = (if b then 0 else 4) from fun b hb => by subst hb; exact ⟨rfl, rfl⟩)
  obtain ⟨ok, hok⟩ : ∃ ok, ok = bksOk ks := ⟨_, rfl⟩
  rw [← hok] at h80 h81
  obtain ⟨l1, l2⟩ := HL.out ok hok
  rw [l1, l2]
  generalize bksB ks = BB at *
  clear h hN hfit HL l1 l2 hok
  rcases ok with _ | _
  · go_enter Try.func43, Try.ntmps43
    go_wp2_with (go_at_call 80; refine Calls.mono h80.out ?_; rintro e w2 ⟨rfl, hb2⟩)
    go_ret2
    exact ⟨none, 0, 0, rfl, rfl, OwnB.nil _ _, hb2⟩
  · go_enter Try.func43, Try.ntmps43
    go_wp2_with fail
    refine Calls.mono h80.out ?_
    rintro e w2 ⟨rfl, hb2⟩
    have h5 := hid (h81.out (by first | exact rfl | trivial) w2 hb2)
    have HB2 := hid hb2
    clear h80 h81 hb2
    go_wp2_with fail
    refine Calls.mono h5.out ?_
    rintro e w3 ⟨p3, N3, c3, hN3, rfl, ho3, hg3⟩
    have HN3 := hid hN3
    have HB3 := hid (HB2.out.trans (hg3.below (OwnB.nil w2 w.heap.size) HB2.out.size))
    clear hN3 hg3
    go_wp2_with fail
    go_ret2
    exact ⟨p3, N3, c3, HN3.out, rfl, ho3, HB3.out⟩
theorem OwnK.lo {w : World} {base : Nat} {v : Value} {ds : List Bk} (h : OwnK w base v ds) : BksLo w w.heap.size v ds := by
  obtain ⟨ess, h1, h2, h3⟩ := h
  have hl : ∀ es ∈ ess, es.length = 98 := fun es hes => by
    obtain ⟨i, hi⟩ := List.getElem?_of_mem hes
    have hlt : i < ds.length := by have := (List.getElem?_eq_some_iff.1 hi).1; omega
    exact (h3 i _ es (List.getElem?_eq_getElem hlt) hi).1
  have hm : ∀ (i : Nat) (d : Bk) (es : List Value), ds[i]? = some d → ess[i]? = some es → es.length = 98 ∧ ∃ (q : Option Addr) (c : Nat), es = d.cells (.slice q d.ds.length c) ∧ SdsLo w w.heap.size (.slice q d.ds.length c) d.ds := fun i d es hd he => by
    obtain ⟨a1, cv, a2, a3⟩ := h3 i d es hd he
    have h4 := a3.lo
    obtain ⟨p, cap, ess2, hv, _⟩ := a3.lo
    subst hv
    exact ⟨a1, p, cap, a2, h4⟩
  obtain ⟨_, ⟨rfl, hn⟩ | ⟨g, cap, cur, rfl, hg, hh, hc, hmx, hcs, ht⟩⟩ := h2
  · exact ⟨none, 0, ess, by rw [hn], h1, hm, fun hne => absurd (List.eq_nil_of_length_eq_zero hn) hne⟩
  · exact ⟨_, cap, ess, rfl, h1, hm, fun _ => ⟨g, 0, rfl, (Array.getElem?_eq_some_iff.1 hh).1, fun i es hi => row_range hh ht hl i es hi⟩⟩
end Go.Proofs.Ytpiflgbcbhnmpaa
