/- Put 12. -/
import Derived.Test.YtnilgnnlobiojaaWho
namespace Go.Proofs.Ytnilgnnlobiojaa
open Go.RowKit
theorem put_nil (i x y : Int) (w : World) : Calls Try.prog 12 #[.pointer none, .int .i64 i, C x y] w fun e w' => Out w (.int .i64 7) e w' := by
  unfold C
  go_enter Try.func12, Try.ntmps12
  go_wp2
  go_ret
  exact ⟨rfl, (Below.refl _ _).alloc (Nat.le_refl _) _⟩
theorem wpL_lenG {ops : Array Oper} {rest : List Oper} {Q : Exit → Act → World → Prop} {a : Act} {w : World} {dd : Option Tmp} {m : Operand} {tt : TypeId} {pos : String} {af : Array Edge} {g : Option (Nat × Bool)} (mo : Option Nat) (f : Int → Option Value)
    (hw : Region.wanted { dst := dd, op := Op.call { callee := Callee.builtin Builtin.len, args := #[m], argTypes := #[53] }, type := tt, pos := pos, after := af, guard := g } (yielded ops a.tmps) = true)
    (hm : a.eval m = .map mo) {n : Nat} (hf : IMapO w mo f n)
    (h : wpList Try.prog ops Q rest (a.put dd (.int .i64 n)) w) :
    wpList Try.prog ops Q ({ dst := dd, op := Op.call { callee := Callee.builtin Builtin.len, args := #[m], argTypes := #[53] }, type := tt, pos := pos, after := af, guard := g } :: rest) a w := by
  refine wpList_step fun K hK => ?_
  rw [if_pos hw]
  unfold Oper.wp
  have hr := hf.len tt
  simp [execOp, resolve, invoke, builtin, hm, hr, Result.andThen]
  exact hK _ _ h
/-- What Put leaves. -/
def OutPut2 (b base n : Nat) (fa : Cl → Option Value) (A : Cl → List Int) (F : Int → Option Cl) (i : Int) (c : Cl) (w : World) (e : Ending) (w' : World) : Prop :=
  e = .returned (.int .i64 (putE F n i c)) ∧ Below base w w' ∧ Kept2 fa w w' ∧ (putE F n i c = 0 → ∃ fa', Jx w' b base fa' (insA (offA A F i) i c) (insF F i c) (offN F i n + 1) ∧ Own2 w fa fa') ∧ (putE F n i c ≠ 0 → Jx w' b base fa A F n)
theorem Own2.mono {w w1 : World} {fa fb : Cl → Option Value} (h : Own2 w1 fa fb) (hs : w.heap.size ≤ w1.heap.size) : Own2 w fa fb := (Own2.refl w fa).trans h hs
/-- The same, without the rows. -/
def OutPut (b base n : Nat) (A : Cl → List Int) (F : Int → Option Cl) (i : Int) (c : Cl) (w : World) (e : Ending) (w' : World) : Prop :=
  e = .returned (.int .i64 (putE F n i c)) ∧ Below base w w' ∧ Kept w w' ∧ (putE F n i c = 0 → Ix w' b base (insA (offA A F i) i c) (insF F i c) (offN F i n + 1)) ∧ (putE F n i c ≠ 0 → Ix w' b base A F n)
set_option maxRecDepth 20000 in
set_option maxHeartbeats 4000000 in
theorem put2_any (b base n : Nat) (fa : Cl → Option Value) (A : Cl → List Int) (F : Int → Option Cl) (i x y : Int) (w : World) (h : Jx w b base fa A F n) (hok : Ok A F n) (hn : n ≤ 4096) (hbase : base ≤ w.heap.size) :
    Calls Try.prog 12 #[.pointer (some ⟨b, 0, none⟩), .int .i64 i, C x y] w fun e w' => OutPut2 b base n fa A F i (x, y) w e w' := by
  obtain ⟨W, hW⟩ : ∃ W, W = w.alloc (.cells #[.int .i64 x, .int .i64 y] 32) := ⟨_, rfl⟩
  obtain ⟨g, hg⟩ : ∃ g, g = w.heap.size := ⟨_, rfl⟩
  have HB0 : Hid (Below w.heap.size w W) := by rw [hW]; exact (Below.refl _ _).alloc (Nat.le_refl _) _
  have HG0 : Hid (Blk W g [.int .i64 x, .int .i64 y] 32) := by rw [hW]; exact Blk.new' _ _ _ _ hg
  have HK0 : Hid (Kept2 fa w W) := Kept2.below HB0.out
  have HI0 := hid (h.below HB0.out)
  have HBL := hid hbase
  have HGE := hid (fun (_ : Nat) => hg)
  have HWE := hid (fun (_ : Nat) => hW)
  have HOK := hid hok
  have HN := hid hn
  clear h hbase hW hg hok hn
  obtain ⟨E, hE⟩ : ∃ E, E = putE F n i (x, y) := ⟨_, rfl⟩
  have HE := hid (fun (_ : Nat) => hE)
  unfold OutPut2
  rw [← hE]
  clear hE
  have hc0 : W.cell? ⟨g, 0, none⟩ = some (.int .i64 x) := HG0.out.cell 0
  have hc1 : W.cell? ⟨g, 1, none⟩ = some (.int .i64 y) := HG0.out.cell 1
  obtain ⟨M, hM⟩ : ∃ M, M = measC (x, y) := ⟨_, rfl⟩
  have HM := hid (fun (_ : Nat) => hM)
  have hmc := measured_any x y W
  rw [← hM] at hmc
  clear hM
  have HMC := hid hmc
  clear hmc
  unfold C
  unfold C at HMC
  go_enter Try.func12, Try.ntmps12
  go_upto_region 3 with fail
  rw [← HWE.out 0, ← HGE.out 0]
  clear HWE
  go_upto_if 13 with fail
  refine Calls.mono HMC.out ?_
  rintro _ W1 ⟨rfl, hb1⟩
  go_upto_if 13 with fail
  have HB1 := hid (HB0.out.trans (hb1.mono HB0.out.size))
  have HI1 := hid (HI0.out.below hb1)
  have HK1 := hid (HK0.out.trans (Kept2.below hb1))
  have HG1 := hid (HG0.out.below hb1 HG0.out.lt)
  clear hb1 HB0 HI0 HG0 hc0 hc1 HMC
  cases M with
  | false =>
    simp only [Bool.not_false]
    go_wp2
    go_ret
    have hE : E = 2 := by rw [HE.out 0]; unfold putE; rw [if_neg (by rw [← HM.out 0]; decide)]
    subst hE
    exact ⟨rfl, HB1.out.mono HBL.out, HK1.out, fun h => by omega, fun _ => HI1.out⟩
  | true =>
    simp only [Bool.not_true]
    obtain ⟨oa, ow, fy, hy⟩ := HI1.out.ix.iy
    have c1 : W1.cell? ⟨b, 1, none⟩ = some (.map ow) := hy.blk.cell 1
    have HY := hid hy
    clear hy
    obtain ⟨p, q, hpq⟩ : ∃ p q, ((F i).map cellV).getD (C 0 0) = .agg #[.int .i64 p, .int .i64 q] := by
      cases F i with
      | none => exact ⟨0, 0, rfl⟩
      | some c => exact ⟨c.1, c.2, rfl⟩
    obtain ⟨ok, hok⟩ : ∃ ok, ok = (F i).isSome := ⟨_, rfl⟩
    have hom : ((F i).map cellV).isSome = ok := by rw [hok]; cases F i <;> rfl
    have HPQ := hid hpq
    have HOM := hid hom
    have HOE := hid (fun (_ : Nat) => hok)
    clear hpq hom hok
    obtain ⟨V, hV⟩ : ∃ V, V = W1.alloc (.cells #[.int .i64 p, .int .i64 q] 32) := ⟨_, rfl⟩
    obtain ⟨s, hs⟩ : ∃ s, s = W1.heap.size := ⟨_, rfl⟩
    have hBV : Below W1.heap.size W1 V := by rw [hV]; exact (Below.refl _ _).alloc (Nat.le_refl _) _
    have HS2 : Hid (Blk V s [.int .i64 p, .int .i64 q] 32) := by rw [hV]; exact Blk.new' _ _ _ _ hs
    have HG2 : Hid (Blk V g [.int .i64 x, .int .i64 y] 32) := by rw [hV]; exact HG1.out.alloc _
    have HI2 := hid (HI1.out.below hBV)
    have HK2 := hid (HK1.out.trans (Kept2.below hBV))
    have HB2 := hid (HB1.out.trans (hBV.mono HB1.out.size))
    have HSG : Hid (base ≤ s) := by rw [hs]; exact Nat.le_trans HBL.out HB1.out.size
    have HVE := hid (fun (_ : Nat) => hV)
    have HSE := hid (fun (_ : Nat) => hs)
    have HY2 : Hid (IMapO V ow (fun i => (F i).map cellV) n ∧ Blk V b [.map oa, .map ow] 55) := by
      refine ⟨?_, HY.out.blk.below hBV HY.out.blk.lt⟩
      have h1 := HY.out.im
      cases ow with
      | none => exact h1
      | some m => exact IMap.keep h1 (hBV.block m (IMap.lt h1))
    clear hV hs hBV
    go_upto_region 6 with (at_lookup; (with_reducible refine wpL_lookO ow _ i ?_ ?_ HY.out.im ?_); (rfl); (rfl); (rw [HPQ.out, HOM.out]))
    rw [← HVE.out 0, ← HSE.out 0]
    clear HVE HSE HY c1 HG1 HI1 HB1
    have d1 : V.cell? ⟨b, 1, none⟩ = some (.map ow) := HY2.out.2.cell 1
    have s0 : V.cell? ⟨s, 0, none⟩ = some (.int .i64 p) := HS2.out.cell 0
    have s1 : V.cell? ⟨s, 1, none⟩ = some (.int .i64 q) := HS2.out.cell 1
    cases ok with
    | true =>
      obtain ⟨d, hd⟩ : ∃ d, F i = some d := by
        have h1 := HOE.out 0
        cases hF : F i with
        | none => rw [hF] at h1; cases h1
        | some d => exact ⟨d, rfl⟩
      obtain rfl : d = (p, q) := by
        have h1 := HPQ.out
        rw [hd] at h1
        obtain ⟨a, c⟩ := d
        simp [cellV, C] at h1
        rw [h1.1, h1.2]
      have hE : E = 0 := by rw [HE.out 0]; unfold putE; rw [if_pos (HM.out 0).symm, hd]; rfl
      subst hE
      obtain ⟨ma, mw, him⟩ : ∃ ma mw, Im V b base ma mw fa A F n := by
        rcases HI2.out with ⟨⟨_, _, _, h4, _⟩, _⟩ | h1
        · rw [h4 i] at hd; cases hd
        · exact h1
      have hAi : i ∈ A (p, q) := (HOK.out.mem (p, q) i).2 hd
      have hal := HOK.out.len (p, q)
      have hlv := leave_any b base n ma mw fa A F i p q V him hd hAi (HOK.out.inc (p, q)) (by have := HN.out; omega) (Nat.le_trans HBL.out HB2.out.size)
      unfold C at hlv
      have HLV := hid hlv
      have HD := hid hd
      clear hlv hal hAi him hd d1 HY2 HPQ HOM HOE
      go_upto_region 9 with fail
      go_upto_region 10 with fail
      refine Calls.mono HLV.out ?_
      rintro _ V2 ⟨rfl, ⟨fb, him2, how2⟩, hb2, hk2⟩
      go_upto_region 10 with fail
      have HI3 := hid him2
      have HB3 := hid ((HB2.out.mono HBL.out).trans hb2)
      have HK3 := hid (HK2.out.trans hk2)
      have HG3 := hid ((hk2.kept HI2.out.rows).blk HG2.out (by decide) (by decide))
      have HW3 := hid (how2.mono HB2.out.size)
      clear him2 hb2 hk2 how2 HLV HI2 HB2 HK2 HG2 HS2 s0 s1
      have hok3 := HOK.out.rem HD.out
      have hal := hok3.len (x, y)
      have hen := enter_any b base (n - 1) fb (remA A i (p, q)) (remF F i) i x y V2 (Or.inr ⟨ma, mw, HI3.out⟩) (remF_self F i) (hok3.inc (x, y)) (by have := HN.out; omega) (Nat.le_trans HBL.out (Nat.le_trans (Nat.le_refl _) ?_))
      case refine_1 => exact HB3.out.size
      have g0 : V2.cell? ⟨g, 0, none⟩ = some (.int .i64 x) := HG3.out.cell 0
      have g1 : V2.cell? ⟨g, 1, none⟩ = some (.int .i64 y) := HG3.out.cell 1
      unfold C at hen
      have HEN := hid hen
      clear hen hal hok3
      go_upto_region 11 with fail
      refine Calls.mono HEN.out ?_
      rintro _ V4 ⟨rfl, ⟨fc, hi4, how4⟩, hb4, hk4⟩
      go_wp2
      go_ret
      rw [insF_rem] at hi4
      refine ⟨rfl, HB3.out.trans hb4, HK3.out.step HW3.out hk4, fc, ?_, HW3.out.trans how4 HB3.out.size⟩
      unfold offA offN
      rw [HD.out]
      exact hi4
    | false =>
      have hd : F i = none := by
        have h1 := HOE.out 0
        cases hF : F i with
        | none => rfl
        | some d => rw [hF] at h1; cases h1
      by_cases hfull : n = 4096
      · have hq : ((n : Int) == 4096) = true := by rw [hfull]; rfl
        have hE : E = 6 := by rw [HE.out 0]; unfold putE; rw [if_pos (HM.out 0).symm, hd, hfull]; rfl
        subst hE
        clear hd hfull HPQ HOM HOE
        go_upto_if 32 with (at_len; (with_reducible refine wpL_lenG ow _ ?_ ?_ HY2.out.1 ?_); (rfl); (rfl))
        go_wp2
        go_ret
        exact ⟨rfl, HB2.out.mono HBL.out, HK2.out, fun h => by omega, fun _ => HI2.out⟩
      · have hq : ((n : Int) == 4096) = false := by simp; omega
        have hE : E = 0 := by rw [HE.out 0]; unfold putE; rw [if_pos (HM.out 0).symm, hd, if_neg (by simp; omega)]
        subst hE
        have hal := HOK.out.len (x, y)
        have hen := enter_any b base n fa A F i x y V HI2.out hd (HOK.out.inc (x, y)) (by have := HN.out; omega) (Nat.le_trans HBL.out HB2.out.size)
        unfold C at hen
        have HEN := hid hen
        have HD := hid hd
        have g0 : V.cell? ⟨g, 0, none⟩ = some (.int .i64 x) := HG2.out.cell 0
        have g1 : V.cell? ⟨g, 1, none⟩ = some (.int .i64 y) := HG2.out.cell 1
        clear hen hal hd hfull HPQ HOM HOE
        go_upto_if 32 with (at_len; (with_reducible refine wpL_lenG ow _ ?_ ?_ HY2.out.1 ?_); (rfl); (rfl))
        go_upto_region 11 with fail
        refine Calls.mono HEN.out ?_
        rintro _ V4 ⟨rfl, ⟨fc, hi4, how4⟩, hb4, hk4⟩
        go_wp2
        go_ret
        refine ⟨rfl, (HB2.out.mono HBL.out).trans hb4, HK2.out.trans hk4, fc, ?_, how4.mono HB2.out.size⟩
        unfold offA offN
        rw [HD.out]
        exact hi4
theorem put_any (b base n : Nat) (A : Cl → List Int) (F : Int → Option Cl) (i x y : Int) (w : World) (h : Ix w b base A F n) (hok : Ok A F n) (hn : n ≤ 4096) (hbase : base ≤ w.heap.size) :
    Calls Try.prog 12 #[.pointer (some ⟨b, 0, none⟩), .int .i64 i, C x y] w fun e w' => OutPut b base n A F i (x, y) w e w' := by
  obtain ⟨fa, hj⟩ := h.jx
  refine Calls.mono (put2_any b base n fa A F i x y w hj hok hn hbase) ?_
  rintro e w' ⟨he, h1, h2, h3, h4⟩
  exact ⟨he, h1, h2.kept hj.rows, fun h => by obtain ⟨_, h5, _⟩ := h3 h; exact h5.ix, fun h => (h4 h).ix⟩
end Go.Proofs.Ytnilgnnlobiojaa
