/- What appendList answers of sealed commands. -/
import Derived.Test.YtpiflgbcbhnmpaaWsld
namespace Go.Proofs.Ytpiflgbcbhnmpaa
open Go.RowKit
attribute [local go_sem ↓] zv47
/-- v is a slice of the sealed commands ds, all in blocks below base. -/
def SdsLo (w : World) (base : Nat) (v : Value) (ds : List Sd) : Prop :=
  ∃ (p : Option Addr) (cap : Nat) (ess : List (List Value)), v = .slice p ds.length cap ∧ ess.length = ds.length ∧ (∀ (i : Nat) (d : Sd) (es : List Value), ds[i]? = some d → ess[i]? = some es → es.length = 37 ∧ ∃ (q : Option Addr) (c : Nat), es = d.cells (.slice q d.cs.length c) ∧ CmdsAt w (.slice q d.cs.length c) d.cs ∧ (0 < d.cs.length → ∀ a, q = some a → a.block < base)) ∧ (ds ≠ [] → ∃ b o, p = some ⟨b, o, none⟩ ∧ b < base ∧ ∀ (i : Nat) (es : List Value), ess[i]? = some es → w.rangeAt b (o + i * 37) es)
theorem CmdsAt.low {w w' : World} {base : Nat} {q : Option Addr} {n c : Nat} {cs : List C6} (h : CmdsAt w (.slice q n c) cs) (hb : Below base w w') (hq : 0 < n → ∀ a, q = some a → a.block < base) : CmdsAt w' (.slice q n c) cs := by
  obtain ⟨p', c', he, h⟩ := h
  simp at he
  obtain ⟨rfl, rfl, rfl⟩ := he
  refine ⟨q, c, rfl, fun hne => ?_⟩
  obtain ⟨b, o, rfl, hc⟩ := h hne
  refine ⟨b, o, rfl, fun i c hi j u hu => ?_⟩
  rw [hb.cell (p := ⟨b, o + i * 6 + j, none⟩) (show b < base from hq (List.length_pos_iff.2 hne) ⟨b, o, none⟩ rfl)]
  exact hc i c hi j u hu
theorem SdsLo.below {w w' : World} {base : Nat} {v : Value} {ds : List Sd} (h : SdsLo w base v ds) (hb : Below base w w') : SdsLo w' base v ds := by
  obtain ⟨p, cap, ess, rfl, h1, h2, h3⟩ := h
  refine ⟨p, cap, ess, rfl, h1, fun i d es hd he => ?_, fun hn => ?_⟩
  · obtain ⟨a1, q, c, a2, a3, a4⟩ := h2 i d es hd he
    exact ⟨a1, q, c, a2, a3.low hb a4, a4⟩
  · obtain ⟨b, o, rfl, hlt, hc⟩ := h3 hn
    exact ⟨b, o, rfl, hlt, fun i es hi j u hu => by rw [hb.cell (p := ⟨b, o + i * 37 + j, none⟩) hlt]; exact hc i es hi j u hu⟩
def sdsB (ds : List Sd) : List Nat := sev ds.length ++ ds.flatMap Sd.bytes
theorem sd_len {d : Sd} (hd : d.Nn) : d.bytes.length ≤ 62000 := by
  have := body_len hd
  have := hd.tg
  simp only [Sd.bytes, List.length_append]
  omega
set_option maxRecDepth 100000 in
set_option maxHeartbeats 4000000 in
theorem appendList90 (ds : List Sd) (hds : ∀ d ∈ ds, d.Nn) (hdl : ds.length < 1000) (xs : List Nat) (base : Nat) (p : Option Addr) (M cap : Nat) (q : Option Addr) (N qc : Nat) (w : World) (hM : M = xs.length) (hN : N = ds.length) (ho : OwnB w base (.slice p M cap) xs) (hbase : base ≤ w.heap.size) (hsz : M < 10000000) (hC : SdsLo w base (.slice q N qc) ds) :
    Calls Try.prog 90 #[.slice p M cap, .slice q N qc, .func (.func 52) #[] #[]] w fun e w' => OutG w (.slice p M cap) base (xs ++ sdsB ds) e w' := by
  have hc1 := hid (appendInt85 N (by omega) xs base p M cap w hM ho hbase (by omega))
  have hcall := hid (show ∀ (d : Sd) (q : Option Addr) (c : Nat) (L : List Nat) (p1 : Option Addr) (N1 c1 : Nat) (W : World), d.Nn → (0 < d.cs.length → ∀ a, q = some a → a.block < base) → CmdsAt W (.slice q d.cs.length c) d.cs → N1 = L.length → OwnB W base (.slice p1 N1 c1) L → base ≤ W.heap.size → N1 < 100000000 → Calls Try.prog 52 #[.slice p1 N1 c1, .agg (d.cells (.slice q d.cs.length c)).toArray] W fun e w' => OutG W (.slice p1 N1 c1) base (L ++ d.bytes) e w' ∧ d.bytes.length ≤ 62000 from fun d q c L p1 N1 c1 W hn hq hcm h1 h2 h3 h4 =>
    (appendSealed52 d hn q d.cs.length c rfl L base p1 N1 c1 W h1 h2 h3 h4 hcm (fun hn' a ha => ⟨fun he => by have := (h2.block _ he).1; have := hq hn' a ha; omega, Nat.lt_of_lt_of_le (hq hn' a ha) h3⟩)).mono fun _ _ h8 => ⟨h8, sd_len hn⟩)
  have HN := hid hN
  have HDS := hid hds
  have HC := hid hC
  have HMM := hid hM
  have HOW := hid ho
  have hN1000 : N < 1000 := by omega
  have HB := hid hbase
  clear hN hC hM ho hds hdl
  obtain ⟨v0, hv0⟩ : ∃ v0, v0 = Value.slice p M cap := ⟨_, rfl⟩
  have HV0 := hid hv0
  clear hv0
  go_enter Try.func90, Try.ntmps90
  go_wp2_with fail
  refine Calls.mono hc1.out ?_
  rintro e w1 ⟨p1, N1, c1, hN1, rfl, ho1, hg1⟩
  have hl10 := sev_len10 (n := N) (by omega)
  have hb1 : N1 ≤ M + 10 := by rw [hN1, List.length_append, ← HMM.out]; omega
  have HN1 := hid hN1
  have HO1 := hid ho1
  have HG1 := hid hg1
  clear hN1 ho1 hg1 hc1 hl10
  go_wp2_with fail
  go_loopw [0, 15] (fun v iv wr => ∃ (i : Nat) (p : Option Addr) (K c : Nat) (L : List Nat), v = .slice p K c ∧ iv = .int .i64 (i : Nat) ∧ i ≤ N ∧ K ≤ M + 10 + 62000 * i ∧ Hid (K = L.length) ∧ Hid (xs ++ sdsB ds = L ++ (ds.drop i).flatMap Sd.bytes) ∧ Hid (OwnB wr base (.slice p K c) L) ∧ Hid (Gro w v0 wr (.slice p K c))) (fun _ iv _ => N - natOf iv)
  case atStart => exact ⟨0, p1, N1, c1, xs ++ sev N, rfl, rfl, by omega, by omega, HN1, by show _ = _; rw [List.drop_zero, List.append_assoc]; unfold sdsB; rw [← HN.out], HO1, by rw [HV0.out]; exact HG1.out⟩
  case round =>
    clear HN1 HO1 HG1 hb1
    obtain ⟨i, p2, K, c2, L, rfl, rfl, hi, hK, hKL, hE, hO, hG⟩ := hrel
    have w1' : IntKind.i64.wrap ((i : Int) + 1) = (i : Int) + 1 := by rw [IntKind.wrap_i64]; omega
    by_cases hlt : i < N
    · have hlb : i < ds.length := by have := HN.out; omega
      obtain ⟨d, hdi⟩ : ∃ d, ds[i]? = some d := ⟨_, List.getElem?_eq_getElem hlb⟩
      have hGv : Gro w (.slice p M cap) wr (.slice p2 K c2) := by rw [← HV0.out]; exact hG.out
      have hbeW := hGv.below HOW.out HB.out
      obtain ⟨q', qc', ess, he, hel, hmem, hrow⟩ := HC.out.below hbeW
      simp at he
      obtain ⟨rfl, hNc, rfl⟩ := he
      clear hNc
      obtain ⟨b, o, rfl, hblt, hrg⟩ := hrow (by rintro rfl; simp at hlb)
      obtain ⟨E, hEi⟩ : ∃ E, ess[i]? = some E := ⟨_, List.getElem?_eq_getElem (by omega)⟩
      obtain ⟨hEl, q3, c3, hEd, hCm, hq3⟩ := hmem i d E hdi hEi
      have hr := hrg i E hEi
      have hcn := hid (HDS.out d (List.mem_of_getElem? hdi))
      have HE2 : Hid (xs ++ sdsB ds = (L ++ d.bytes) ++ (ds.drop (i + 1)).flatMap Sd.bytes) := by
        show _ = _
        rw [hE.out, List.drop_eq_getElem_cons hlb, List.flatMap_cons, (List.getElem?_eq_some_iff.1 hdi).2, List.append_assoc]
      have e2 : (i : Int) < (N : Int) := by omega
      have e3 : (0 : Int) ≤ (i : Int) := by omega
      have hlo := hid (show base ≤ wr.heap.size from Nat.le_trans HB.out hGv.size)
      have hal : Below wr.heap.size wr (wr.alloc (.cells E.toArray 47)) := (Below.refl _ _).alloc (Nat.le_refl _) _
      have CL := hid (show Calls Try.prog 52 #[.slice p2 K c2, .agg E.toArray] (wr.alloc (.cells E.toArray 47)) fun e w' => OutG (wr.alloc (.cells E.toArray 47)) (.slice p2 K c2) base (L ++ d.bytes) e w' ∧ d.bytes.length ≤ 62000 from by
        have h9 := hcall.out d q3 c3 L p2 K c2 (wr.alloc (.cells E.toArray 47)) hcn.out hq3 (hCm.below hal) hKL.out (hO.out.below hal) (Nat.le_trans hlo.out hal.size) (by omega)
        rw [← hEd] at h9
        exact h9)
      have HGA := hid (hG.out.alloc (.cells E.toArray 47))
      have hi47 : (Try.prog.info? 47).map (·.size) = some E.length := by rw [hEl]; exact size47
      have hzl : z47.length = E.length := by rw [hEl]; simp [z47, zB_length]
      have honeE : Hid (∀ v ∈ E, v.oneCell' = true) := by
        rw [hEd]; intro v hv
        simp only [Sd.cells, List.mem_cons] at hv
        rcases hv with rfl | rfl | rfl | rfl | rfl | hv
        · rfl
        · rfl
        · rfl
        · rfl
        · rfl
        · exact mapBy_one _ v hv
      have hrn := (Blk.new wr E 47).range
      generalize d.bytes = cb at *
      clear hrg hrow hdi hE hGv hcn hO hG hlo hbeW hmem hel hEi hEd hCm hq3 hal hblt
      go_wp2_with (first
        | ((with_reducible refine wpL_load 47 b (o + i * 37) E _ ?_ hr Try.underlying47 ?_ hi47 ?_); (rfl); (rfl); (simp only [Act.put, List.setIfInBounds_toArray, List.set_cons_zero, List.set_cons_succ]))
        | ((with_reducible refine wpL_new 47 z47 E zv47 hzl ?_ ?_ hi47 honeE.out ?_); (rfl); (rfl); (simp only [Act.put, List.setIfInBounds_toArray, List.set_cons_zero, List.set_cons_succ]))
        | ((with_reducible refine wpL_load 47 wr.heap.size 0 E _ ?_ hrn Try.underlying47 ?_ hi47 ?_); (rfl); (rfl); (simp only [Act.put, List.setIfInBounds_toArray, List.set_cons_zero, List.set_cons_succ]))
        | (go_at_call 52; refine Calls.mono CL.out ?_; rintro e w5 ⟨⟨p5, N5, c5, hN5, rfl, ho5, hg5⟩, hcb⟩; have hK5 : N5 ≤ M + 10 + 62000 * (i + 1) := (by rw [hN5, List.length_append, ← hKL.out]; omega); have HN5 := hid hN5; have HG5 := hid (HGA.out.trans hg5); clear hN5 hg5 hcb HGA))
      go_roundw
      case rel => exact ⟨i + 1, p5, N5, c5, L ++ cb, rfl, by go_num, by omega, hK5, HN5, HE2, ho5, HG5⟩
      case measure => simp [natOf]; omega
    · have e2 : ¬ (i : Int) < (N : Int) := by omega
      have HE2 : Hid (xs ++ sdsB ds = L) := by
        show _ = _
        rw [hE.out, List.drop_eq_nil_of_le (by have := HN.out; omega)]; simp
      have HGF := hid (show Gro w (.slice p M cap) wr (.slice p2 K c2) by rw [← HV0.out]; exact hG.out)
      clear hE hG hcall
      go_wp2_with fail
      go_ret
      rw [HE2.out]
      exact ⟨p2, K, c2, hKL.out, rfl, hO.out, HGF.out⟩
end Go.Proofs.Ytpiflgbcbhnmpaa
