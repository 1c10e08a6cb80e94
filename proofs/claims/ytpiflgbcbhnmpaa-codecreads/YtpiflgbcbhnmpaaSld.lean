/- What the reader's sealed answers. -/
import Derived.Test.YtpiflgbcbhnmpaaAllF
namespace Go.Proofs.Ytpiflgbcbhnmpaa
open Go.RowKit
def z47 : List Value := .int .u64 0 :: .int .i64 0 :: .int .i64 0 :: .bool false :: .slice none 0 0 :: zB 32
theorem z47_eq : z47 = [.int .u64 0, .int .i64 0, .int .i64 0, .bool false, .slice none 0 0] ++ List.replicate 32 (Value.int .u8 0) := by unfold z47; rw [zB_eq]; rfl
theorem zv47 (w : World) : (zeroValue 47).run Try.prog w = .ok (.agg z47.toArray) w := by rw [z47_eq]; exact Try.zeroValue47 w
theorem size47 : (Try.prog.info? 47).map (·.size) = some 37 := by kernel_rfl
attribute [local go_sem ↓] zv47
theorem number_st {w0 w : World} {rb B : Nat} {ty : TypeId} {z l : List Value} {s : S2} (h : St w0 w rb B ty z l s) (hf : Fit s) (most : Nat) :
    Calls Try.prog 91 #[.pointer (some ⟨rb, 0, none⟩), .int .u64 (most : Int)] w fun e w' => e = .returned (.int .u64 ((pN most s).1 : Int)) ∧ St w0 w' rb B ty z l (pN most s).2 ∧ Only rb w w' :=
  (number91 most rb s.1 s.2 w h.rd hf.1 hf.2).mono fun _ _ ⟨he, hr, ho⟩ => ⟨he, h.call ho hr, ho⟩
def pD (s : S2) : List Nat × S2 := pDig s.1 s.2
theorem Fit.dig {s : S2} (h : Fit s) : Fit (pD s).2 := ⟨pDig_byt h.1, Nat.lt_of_le_of_lt pDig_len h.2⟩
theorem pMany_fit {α : Type} {f : S2 → α × S2} (hf : ∀ s, Fit s → Fit (f s).2) : ∀ (n : Nat) (s : S2), Fit s → Fit (pMany f n s).2
  | 0, _, h => h
  | n + 1, s, h => pMany_fit hf n _ (hf s h)
theorem pList_fit {α : Type} {f : S2 → α × S2} (hf : ∀ s, Fit s → Fit (f s).2) (most : Nat) (s : S2) (h : Fit s) : Fit (pList most f s).2 := pMany_fit hf _ _ (h.num most)
theorem digest_st {w0 w : World} {rb B : Nat} {ty : TypeId} {z l : List Value} {s : S2} (h : St w0 w rb B ty z l s) (hf : Fit s) :
    Calls Try.prog 95 #[.pointer (some ⟨rb, 0, none⟩)] w fun e w' => e = .returned (.agg ((pD s).1.map By).toArray) ∧ St w0 w' rb B ty z l (pD s).2 ∧ Only rb w w' :=
  (digest95 rb s.1 s.2 w h.rd hf.2).mono fun _ _ ⟨he, hr, ho⟩ => ⟨he, h.call ho hr, ho⟩
/-- Sealed commands are read. -/
def pSeal0 (s : S2) : Sd × S2 :=
  let m := pN 9223372036854775807 s
  let pl := pN 3 m.2
  let tn := pN 59 pl.2
  let em := pN 1 tn.2
  let cs := pList 5 pCmd em.2
  let tg := pD cs.2
  (⟨m.1, pl.1, tn.1, ((em.1 : Int) == 1), cs.1, tg.1⟩, tg.2)
def pSeal (s : S2) : Sd × S2 := ((pSeal0 s).1, if (pSeal0 s).1.ok then (pSeal0 s).2 else ([], true))
theorem pSeal0_fit {s : S2} (hf : Fit s) : Fit (pSeal0 s).2 := by
  unfold pSeal0
  obtain ⟨m, s1, hm⟩ : ∃ a b, pN 9223372036854775807 s = (a, b) := ⟨_, _, rfl⟩
  obtain ⟨pl, s2, hpl⟩ : ∃ a b, pN 3 s1 = (a, b) := ⟨_, _, rfl⟩
  obtain ⟨tn, s3, htn⟩ : ∃ a b, pN 59 s2 = (a, b) := ⟨_, _, rfl⟩
  obtain ⟨em, s4, hem⟩ : ∃ a b, pN 1 s3 = (a, b) := ⟨_, _, rfl⟩
  obtain ⟨cs, s5, hcs⟩ : ∃ a b, pList 5 pCmd s4 = (a, b) := ⟨_, _, rfl⟩
  have F1 : Fit s1 := by have := hf.num 9223372036854775807; rw [hm] at this; exact this
  have F2 : Fit s2 := by have := F1.num 3; rw [hpl] at this; exact this
  have F3 : Fit s3 := by have := F2.num 59; rw [htn] at this; exact this
  have F4 : Fit s4 := by have := F3.num 1; rw [hem] at this; exact this
  have F5 : Fit s5 := by have := pList_fit (fun _ h => pCmd_fit h) 5 s4 F4; rw [hcs] at this; exact this
  simp only [hm, hpl, htn, hem, hcs]
  exact F5.dig
theorem pSeal_fit {s : S2} (h : Fit s) : Fit (pSeal s).2 := by
  unfold pSeal
  simp only
  split
  · exact pSeal0_fit h
  · exact ⟨Byt.nil, by simp⟩
/-- The sealed commands d are what the cells es are. -/
def SdAt (w : World) (base : Nat) (d : Sd) (es : List Value) : Prop := ∃ cv, es = d.cells cv ∧ OwnC w base cv d.cs
def SldOk (w : World) (rb : Nat) (d : Sd) (s : S2) (e : Ending) (w' : World) : Prop := ∃ es, e = .returned (.agg es.toArray) ∧ SdAt w' w.heap.size d es ∧ RdAt w' rb s.1 s.2 ∧ Only rb w w'
theorem OwnC.mono {w : World} {base B : Nat} {v : Value} {cs : List C6} (h : OwnC w B v cs) (hb : base ≤ B) : OwnC w base v cs := by
  obtain ⟨h1, ⟨rfl, hn⟩ | ⟨g, cap, cur, rfl, hg, r⟩⟩ := h
  · exact ⟨h1, Or.inl ⟨rfl, hn⟩⟩
  · exact ⟨h1, Or.inr ⟨g, cap, cur, rfl, by omega, r⟩⟩
theorem OwnC.setLow {w : World} {base : Nat} {v : Value} {cs : List C6} (h : OwnC w base v cs) {g : Nat} (hg : g < base) (j : Nat) (u : Value) : OwnC (w.setCell ⟨g, j, none⟩ u) base v cs :=
  ownsRow_stay h fun k hk => Below.heap_setCell _ _ _ _ (by have := (ownsRow_block h k hk).1; show k ≠ g; omega)
theorem OwnC.setsLow {w : World} {base : Nat} {v : Value} {cs : List C6} (h : OwnC w base v cs) {g : Nat} (hg : g < base) (j : Nat) (us : List Value) : OwnC (w.setCells g j us) base v cs :=
  ownsRow_stay h fun k hk => heap_setCells g us j w k (by have := (ownsRow_block h k hk).1; omega)
theorem OwnC.only {w w' : World} {base rb : Nat} {v : Value} {cs : List C6} (h : OwnC w base v cs) (ho : Only rb w w') (hr : rb < base) : OwnC w' base v cs := ownsRow_only h ho hr
theorem OwnC.below {w w' : World} {base : Nat} {v : Value} {cs : List C6} (h : OwnC w base v cs) (hb : Below w.heap.size w w') : OwnC w' base v cs :=
  ownsRow_stay h fun k hk => hb.block k (ownsRow_block h k hk).2.1
set_option maxRecDepth 100000 in
set_option maxHeartbeats 8000000 in
theorem sealed67 (rb : Nat) (s : S2) (w : World) (h : RdAt w rb s.1 s.2) (hf : Fit s) :
    Calls Try.prog 67 #[.pointer (some ⟨rb, 0, none⟩)] w fun e w' => SldOk w rb (pSeal s).1 (pSeal s).2 e w' := by
  have hS := hid (show St w ((w.alloc (.cells z47.toArray 47)).alloc (.cells z47.toArray 47)) rb w.heap.size 47 z47 z47 s from
    ⟨(Blk.new _ _ _).alloc _, Blk.new' _ _ _ _ (by simp), h.below (((Below.refl _ _).alloc (Nat.le_refl _) _).alloc (by simp) _), ((Only.refl rb w).alloc _).alloc _, Nat.le_refl _, h.lt⟩)
  have hrw := h.lt
  clear h
  have HF := hid hf
  unfold pSeal pSeal0
  obtain ⟨m, s1, hm⟩ : ∃ a b, pN 9223372036854775807 s = (a, b) := ⟨_, _, rfl⟩
  obtain ⟨pl, s2, hpl⟩ : ∃ a b, pN 3 s1 = (a, b) := ⟨_, _, rfl⟩
  obtain ⟨tn, s3, htn⟩ : ∃ a b, pN 59 s2 = (a, b) := ⟨_, _, rfl⟩
  obtain ⟨em, s4, hem⟩ : ∃ a b, pN 1 s3 = (a, b) := ⟨_, _, rfl⟩
  obtain ⟨cs, s5, hcs⟩ : ∃ a b, pList 5 pCmd s4 = (a, b) := ⟨_, _, rfl⟩
  obtain ⟨tg, s6, htg⟩ : ∃ a b, pD s5 = (a, b) := ⟨_, _, rfl⟩
  have F1 : Fit s1 := by have := hf.num 9223372036854775807; rw [hm] at this; exact this
  have F2 : Fit s2 := by have := F1.num 3; rw [hpl] at this; exact this
  have F3 : Fit s3 := by have := F2.num 59; rw [htn] at this; exact this
  have F4 : Fit s4 := by have := F3.num 1; rw [hem] at this; exact this
  have F5 : Fit s5 := by have := pList_fit (fun _ h => pCmd_fit h) 5 s4 F4; rw [hcs] at this; exact this
  have htl : tg.length = 32 := by have := pDig_32 (bs := s5.1) (bad := s5.2); rw [show pDig s5.1 s5.2 = pD s5 from rfl, htg] at this; exact this
  have hml : m ≤ 9223372036854775807 := by have := pNum_le (most := 9223372036854775807) (bs := s.1) (bad := s.2); rw [show pNum 9223372036854775807 s.1 s.2 = pN 9223372036854775807 s from rfl, hm] at this; exact this
  have hcl : cs.length < 1000 := by
    have h1 := pMany_length pCmd (pN 5 s4).1 (pN 5 s4).2
    rw [show pMany pCmd (pN 5 s4).1 (pN 5 s4).2 = pList 5 pCmd s4 from rfl, hcs] at h1
    have h2 : (pN 5 s4).1 ≤ 5 := pNum_le
    show cs.length < 1000
    have h3 : cs.length = (pN 5 s4).1 := h1
    omega
  have K1 : Hid (∀ l W, St w W rb w.heap.size 47 z47 l s → Calls Try.prog 91 #[.pointer (some ⟨rb, 0, none⟩), .int .u64 9223372036854775807] W fun e w' => e = .returned (.int .u64 (m : Int)) ∧ St w w' rb w.heap.size 47 z47 l s1 ∧ Only rb W w') := fun l W h => by have h9 := number_st h hf 9223372036854775807; rw [hm] at h9; exact h9
  have K2 : Hid (∀ l W, St w W rb w.heap.size 47 z47 l s1 → Calls Try.prog 92 #[.pointer (some ⟨rb, 0, none⟩), .int .i64 3] W fun e w' => e = .returned (.int .i64 (pl : Int)) ∧ St w w' rb w.heap.size 47 z47 l s2 ∧ Only rb W w') := fun l W h => by have h9 := upTo_st h F1 3 (by omega); rw [hpl] at h9; exact h9
  have K3 : Hid (∀ l W, St w W rb w.heap.size 47 z47 l s2 → Calls Try.prog 92 #[.pointer (some ⟨rb, 0, none⟩), .int .i64 59] W fun e w' => e = .returned (.int .i64 (tn : Int)) ∧ St w w' rb w.heap.size 47 z47 l s3 ∧ Only rb W w') := fun l W h => by have h9 := upTo_st h F2 59 (by omega); rw [htn] at h9; exact h9
  have K4 : Hid (∀ l W, St w W rb w.heap.size 47 z47 l s3 → Calls Try.prog 92 #[.pointer (some ⟨rb, 0, none⟩), .int .i64 1] W fun e w' => e = .returned (.int .i64 (em : Int)) ∧ St w w' rb w.heap.size 47 z47 l s4 ∧ Only rb W w') := fun l W h => by have h9 := upTo_st h F3 1 (by omega); rw [hem] at h9; exact h9
  have K5 : Hid (∀ l W, St w W rb w.heap.size 47 z47 l s4 → Calls Try.prog 93 #[.pointer (some ⟨rb, 0, none⟩), .int .i64 5, .func (.func 94) #[] #[]] W fun e w' => ∃ p N cap, N = cs.length ∧ e = .returned (.slice p N cap) ∧ OwnC w' W.heap.size (.slice p N cap) cs ∧ St w w' rb w.heap.size 47 z47 l s5 ∧ Only rb W w') := fun l W h => by
    have h9 := list93 rb 5 (by omega) s4 W h.rd F4
    rw [hcs] at h9
    exact h9.mono fun e w' ⟨p, N, cap, a1, a2, a3, a4, a5⟩ => ⟨p, N, cap, a1, a2, a3, h.call a5 a4, a5⟩
  have K6 : Hid (∀ l W, St w W rb w.heap.size 47 z47 l s5 → Calls Try.prog 95 #[.pointer (some ⟨rb, 0, none⟩)] W fun e w' => e = .returned (.agg (tg.map By).toArray) ∧ St w w' rb w.heap.size 47 z47 l s6 ∧ Only rb W w') := fun l W h => by have h9 := digest_st h F5; rw [htg] at h9; exact h9
  have K7 : Hid (∀ (d : Sd) (p : Option Addr) (N cap : Nat) (W : World), d.m < 18446744073709551616 → N = d.cs.length → N < 1000 → CmdsAt W (.slice p N cap) d.cs → Calls Try.prog 51 #[.agg (d.cells (.slice p N cap)).toArray] W fun e w' => e = .returned (.bool d.ok) ∧ Below W.heap.size W w') := fun d p N cap W h1 h2 h3 h4 => sealedFormed51 d h1 p N cap W h2 h4 (by omega)
  have K8 : Hid (∀ (s : S2) (W : World), RdAt W rb s.1 s.2 → Calls Try.prog 96 #[.pointer (some ⟨rb, 0, none⟩)] W fun e w' => e = .returned (.tuple #[]) ∧ RdAt w' rb [] true ∧ Only rb W w') := fun s W h => fail_any rb s.1 s.2 W h
  simp only [hm, hpl, htn, hem, hcs, htg]
  obtain ⟨ok, hok⟩ : ∃ ok, ok = (⟨m, pl, tn, ((em : Int) == 1), cs, tg⟩ : Sd).ok := ⟨_, rfl⟩
  rw [← hok]
  obtain ⟨s7, hs7⟩ : ∃ s7, s7 = (if ok = true then s6 else ([], true)) := ⟨_, rfl⟩
  rw [← hs7]
  have HS7 := hid hs7
  clear hs7
  have HTL := hid htl
  have HCL := hid hcl
  clear hm hpl htn hem hcs htg F1 F2 F3 F4 F5 hf HF htl hcl
  go_enter Try.func67, Try.ntmps67
  go_wp2_with fail
  refine Calls.mono (K1.out _ _ hS.out) ?_
  rintro e w1 ⟨rfl, T1, O1⟩
  have c1 : w1.cell? ⟨w.heap.size + 1, 0, none⟩ = some (.int .u64 0) := T1.own.cell 0
  have f1 := T1.own.frozen 0
  have S1 : Hid (St w (w1.setCell ⟨w.heap.size + 1, 0, none⟩ (.int .u64 (m : Int))) rb w.heap.size 47 z47 (Value.int .u64 (m : Int) :: .int .i64 0 :: .int .i64 0 :: .bool false :: .slice none 0 0 :: zB 32) s1) := T1.set 0 _
  clear T1 O1 hS K1
  go_wp2_with fail
  refine Calls.mono (K2.out _ _ S1.out) ?_
  rintro e w2 ⟨rfl, T2, O2⟩
  have c2 : w2.cell? ⟨w.heap.size + 1, 1, none⟩ = some (.int .i64 0) := T2.own.cell 1
  have f2 := T2.own.frozen 1
  have S2 : Hid (St w (w2.setCell ⟨w.heap.size + 1, 1, none⟩ (.int .i64 (pl : Int))) rb w.heap.size 47 z47 (Value.int .u64 (m : Int) :: .int .i64 (pl : Int) :: .int .i64 0 :: .bool false :: .slice none 0 0 :: zB 32) s2) := T2.set 1 _
  clear T2 O2 S1 c1 f1 K2
  go_wp2_with fail
  refine Calls.mono (K3.out _ _ S2.out) ?_
  rintro e w3 ⟨rfl, T3, O3⟩
  have c3 : w3.cell? ⟨w.heap.size + 1, 2, none⟩ = some (.int .i64 0) := T3.own.cell 2
  have f3 := T3.own.frozen 2
  have S3 : Hid (St w (w3.setCell ⟨w.heap.size + 1, 2, none⟩ (.int .i64 (tn : Int))) rb w.heap.size 47 z47 (Value.int .u64 (m : Int) :: .int .i64 (pl : Int) :: .int .i64 (tn : Int) :: .bool false :: .slice none 0 0 :: zB 32) s3) := T3.set 2 _
  clear T3 O3 S2 c2 f2 K3
  go_wp2_with fail
  refine Calls.mono (K4.out _ _ S3.out) ?_
  rintro e w4 ⟨rfl, T4, O4⟩
  have c4 : w4.cell? ⟨w.heap.size + 1, 3, none⟩ = some (.bool false) := T4.own.cell 3
  have f4 := T4.own.frozen 3
  have S4 : Hid (St w (w4.setCell ⟨w.heap.size + 1, 3, none⟩ (.bool ((em : Int) == 1))) rb w.heap.size 47 z47 (Value.int .u64 (m : Int) :: .int .i64 (pl : Int) :: .int .i64 (tn : Int) :: .bool ((em : Int) == 1) :: .slice none 0 0 :: zB 32) s4) := T4.set 3 _
  clear T4 O4 S3 c3 f3 K4
  go_wp2_with fail
  refine Calls.mono (K5.out _ _ S4.out) ?_
  rintro e w5 ⟨p, N, cap, hN, rfl, hOw, T5, O5⟩
  have c5 : w5.cell? ⟨w.heap.size + 1, 4, none⟩ = some (.slice none 0 0) := T5.own.cell 4
  have f5 := T5.own.frozen 4
  have hb5 : w.heap.size + 1 < (w4.setCell ⟨w.heap.size + 1, 3, none⟩ (.bool ((em : Int) == 1))).heap.size := S4.out.own.lt
  have S5 : Hid (St w (w5.setCell ⟨w.heap.size + 1, 4, none⟩ (.slice p N cap)) rb w.heap.size 47 z47 (Value.int .u64 (m : Int) :: .int .i64 (pl : Int) :: .int .i64 (tn : Int) :: .bool ((em : Int) == 1) :: .slice p N cap :: zB 32) s5) := T5.set 4 _
  have Ow5 := hid (hOw.setLow hb5 4 (.slice p N cap))
  obtain ⟨base, hbase⟩ : ∃ b, b = (w4.setCell ⟨w.heap.size + 1, 3, none⟩ (.bool ((em : Int) == 1))).heap.size := ⟨_, rfl⟩
  rw [← hbase] at hb5 Ow5
  have HN := hid hN
  clear T5 O5 S4 c4 f4 K5 hbase hOw hN
  go_wp2_with fail
  refine Calls.mono (K6.out _ _ S5.out) ?_
  rintro e w6 ⟨rfl, T6, O6⟩
  have htm : (tg.map By).length = 32 := by rw [List.length_map, HTL.out]
  have hi36 : (Try.prog.info? 36).map (·.size) = some (tg.map By).length := by rw [htm]; exact size36
  have hth := T6.own.there 5 (tg.map By).length (by rw [htm]; simp [zB_length])
  have hone := hid (mapBy_one tg)
  have S6 : Hid (St w (w6.setCells (w.heap.size + 1) 5 (tg.map By)) rb w.heap.size 47 z47 ((⟨m, pl, tn, ((em : Int) == 1), cs, tg⟩ : Sd).cells (.slice p N cap)) s6) := by
    have h9 := T6.sets 5 (tg.map By) (by rw [htm]; simp [zB_length])
    rw [show over (Value.int .u64 (m : Int) :: .int .i64 (pl : Int) :: .int .i64 (tn : Int) :: .bool ((em : Int) == 1) :: .slice p N cap :: zB 32) 5 (tg.map By) = (⟨m, pl, tn, ((em : Int) == 1), cs, tg⟩ : Sd).cells (.slice p N cap) by simp [over, Sd.cells, htm, zB_length]] at h9
    exact h9
  have Ow6 := hid ((Ow5.out.only O6 (by omega)).setsLow hb5 5 (tg.map By))
  clear T6 O6 S5 Ow5 c5 f5 K6
  go_upto_region 8 with (first
    | ((with_reducible refine wpL_store 36 (w.heap.size + 1) 5 (tg.map By) ?_ ?_ hth hi36 hone.out ?_); (rfl); (rfl); (simp only [Act.put])))
  clear hth
  generalize w6.setCells (w.heap.size + 1) 5 (tg.map By) = W6 at *
  obtain ⟨E, hE⟩ : ∃ E, E = (⟨m, pl, tn, ((em : Int) == 1), cs, tg⟩ : Sd).cells (.slice p N cap) := ⟨_, rfl⟩
  have hEl : E.length = 37 := by rw [hE]; simp [Sd.cells, HTL.out]
  have hi47 : (Try.prog.info? 47).map (·.size) = some E.length := by rw [hEl]; exact size47
  have honeE : Hid (∀ v ∈ E, v.oneCell' = true) := by
    rw [hE]; intro v hv
    simp only [Sd.cells, List.mem_cons] at hv
    rcases hv with rfl | rfl | rfl | rfl | rfl | hv
    · rfl
    · rfl
    · rfl
    · rfl
    · rfl
    · exact mapBy_one _ v hv
  have hcall := hid (K7.out (⟨m, pl, tn, ((em : Int) == 1), cs, tg⟩ : Sd) p N cap W6 (by show m < _; omega) HN.out (by rw [HN.out]; exact HCL.out) Ow6.out.at)
  rw [← hE] at S6 hcall
  have HE := hid hE
  have hr6 := S6.out.own.range
  clear hE K7
  rw [← hok] at hcall
  have hz : z47.length = E.length := by rw [hEl]; simp [z47, zB_length]
  clear hok
  have HFIN := hid (show ∀ W s', St w W rb w.heap.size 47 z47 E s' → OwnC W base (.slice p N cap) cs → W.rangeAt (w.heap.size + 1) 0 E ∧ W.there w.heap.size 0 E.length ∧ Blk (W.setCells w.heap.size 0 E) w.heap.size E 47 ∧ SdAt (W.setCells w.heap.size 0 E) w.heap.size (⟨m, pl, tn, ((em : Int) == 1), cs, tg⟩ : Sd) E ∧ RdAt (W.setCells w.heap.size 0 E) rb s'.1 s'.2 ∧ Only rb w (W.setCells w.heap.size 0 E) from fun W s' hS hO => by
    obtain ⟨g1, g2, g3⟩ := hS.fin hz
    exact ⟨hS.own.range, hS.res.there 0 _ (by omega), g1, ⟨_, HE.out, (hO.setsLow (by omega) 0 E).mono (by omega)⟩, g2, g3⟩)
  go_wp2_with (first
    | ((with_reducible refine wpL_load 47 (w.heap.size + 1) 0 E _ ?_ hr6 Try.underlying47 ?_ hi47 ?_); (rfl); (rfl); (simp only [Act.put, List.setIfInBounds_toArray, List.set_cons_zero, List.set_cons_succ])))
  refine Calls.mono hcall.out ?_
  rintro e w7 ⟨rfl, hb7⟩
  have S7 := hid (S6.out.below hb7)
  have Ow7 := hid (Ow6.out.below hb7)
  clear S6 Ow6 hb7 hcall hr6
  rcases ok with _ | _
  · have hf8 := hid (K8.out _ _ S7.out.rd)
    go_wp2_with fail
    refine Calls.mono hf8.out ?_
    rintro e w8 ⟨rfl, hR8, hO8⟩
    have S8 := S7.out.call (s' := ([], true)) hO8 hR8
    have Ow8 := Ow7.out.only hO8 (by omega)
    obtain ⟨g1, g2, g3, g4, g5, g6⟩ := HFIN.out _ _ S8 Ow8
    clear S8 Ow8 S7 Ow7 hf8 hR8 hO8 HFIN
    go_wp2_with (first
      | ((with_reducible refine wpL_load 47 (w.heap.size + 1) 0 E _ ?_ g1 Try.underlying47 ?_ hi47 ?_); (rfl); (rfl); (simp only [Act.put, List.setIfInBounds_toArray, List.set_cons_zero, List.set_cons_succ]))
      | ((with_reducible refine wpL_store 47 w.heap.size 0 E ?_ ?_ g2 hi47 honeE.out ?_); (rfl); (rfl); (simp only [Act.put])))
    refine bodyPost_ret (results_array Try.results67 rfl g3 Try.underlying47 rfl hi47) rfl ?_
    rw [show s7 = ([], true) from HS7.out]
    exact ⟨E, rfl, g4, g5, g6⟩
  · obtain ⟨g1, g2, g3, g4, g5, g6⟩ := HFIN.out _ _ S7.out Ow7.out
    clear S7 Ow7 HFIN
    go_wp2_with (first
      | ((with_reducible refine wpL_load 47 (w.heap.size + 1) 0 E _ ?_ g1 Try.underlying47 ?_ hi47 ?_); (rfl); (rfl); (simp only [Act.put, List.setIfInBounds_toArray, List.set_cons_zero, List.set_cons_succ]))
      | ((with_reducible refine wpL_store 47 w.heap.size 0 E ?_ ?_ g2 hi47 honeE.out ?_); (rfl); (rfl); (simp only [Act.put])))
    refine bodyPost_ret (results_array Try.results67 rfl g3 Try.underlying47 rfl hi47) rfl ?_
    rw [show s7 = s6 from HS7.out]
    exact ⟨E, rfl, g4, g5, g6⟩
end Go.Proofs.Ytpiflgbcbhnmpaa
