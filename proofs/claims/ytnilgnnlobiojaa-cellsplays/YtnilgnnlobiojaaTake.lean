/- Take 18. -/
import Derived.Test.YtnilgnnlobiojaaPut
namespace Go.Proofs.Ytnilgnnlobiojaa
open Go.RowKit
theorem take_nil (i : Int) (w : World) : Calls Try.prog 18 #[.pointer none, .int .i64 i] w fun e w' => Out w (.int .i64 3) e w' := by
  unfold Out
  go_enter Try.func18, Try.ntmps18
  go_upto_region 2 with fail
  refine Calls.mono (where_nil i w) ?_
  rintro _ W ⟨rfl, hb⟩
  have HB := hid (hb.alloc hb.size (.cells #[.int .i64 0, .int .i64 0] 32))
  clear hb
  unfold C
  go_wp2
  go_ret
  exact ⟨rfl, HB.out⟩
def takeE (F : Int → Option Cl) (i : Int) : Int := if (F i).isSome then 0 else 3
def takeA (A : Cl → List Int) (F : Int → Option Cl) (i : Int) : Cl → List Int := match F i with | some d => remA A i d | none => A
theorem remF_none {F : Int → Option Cl} {i : Int} (h : F i = none) : remF F i = F := by
  funext j
  unfold remF
  by_cases hj : j = i
  · rw [if_pos hj, hj, h]
  · rw [if_neg hj]
set_option maxRecDepth 20000 in
set_option maxHeartbeats 4000000 in
theorem take2_any (b base n : Nat) (fa : Cl → Option Value) (A : Cl → List Int) (F : Int → Option Cl) (i : Int) (w : World) (h : Jx w b base fa A F n) (hok : Ok A F n) (hn : n ≤ 4096) (hbase : base ≤ w.heap.size) :
    Calls Try.prog 18 #[.pointer (some ⟨b, 0, none⟩), .int .i64 i] w fun e w' => e = .returned (.int .i64 (takeE F i)) ∧ Below base w w' ∧ Kept2 fa w w' ∧ ∃ fa', Jx w' b base fa' (offA A F i) (remF F i) (offN F i n) ∧ Own2 w fa fa' := by
  obtain ⟨p, q, hpq⟩ : ∃ p q, ((F i).map cellV).getD (C 0 0) = .agg #[.int .i64 p, .int .i64 q] := by
    cases F i with
    | none => exact ⟨0, 0, rfl⟩
    | some c => exact ⟨c.1, c.2, rfl⟩
  obtain ⟨ok, hok2⟩ : ∃ ok, ok = (F i).isSome := ⟨_, rfl⟩
  have hv : whV F i = .tuple #[.agg #[.int .i64 p, .int .i64 q], .bool ok] := by unfold whV; rw [hpq, hok2]
  have hwh := where_any b base n A F i w h.ix
  rw [hv] at hwh
  have HWH := hid hwh
  have HI := hid h
  have HOK := hid hok
  have HN := hid hn
  have HBL := hid hbase
  have HPQ := hid hpq
  have HOE := hid (fun (_ : Nat) => hok2)
  obtain ⟨E, hE⟩ : ∃ E, E = takeE F i := ⟨_, rfl⟩
  have HE := hid (fun (_ : Nat) => hE)
  rw [← hE]
  clear hwh h hok hn hbase hpq hok2 hv hE
  go_enter Try.func18, Try.ntmps18
  go_upto_region 2 with fail
  refine Calls.mono HWH.out ?_
  rintro _ W1 ⟨rfl, hb1⟩
  obtain ⟨V, hV⟩ : ∃ V, V = W1.alloc (.cells #[.int .i64 p, .int .i64 q] 32) := ⟨_, rfl⟩
  obtain ⟨s, hs⟩ : ∃ s, s = W1.heap.size := ⟨_, rfl⟩
  have HB2 := hid (hb1.alloc hb1.size (.cells #[.int .i64 p, .int .i64 q] 32))
  rw [← hV] at HB2
  have HK2 : Hid (Kept2 fa w V) := Kept2.below HB2.out
  have HI2 := hid (HI.out.below HB2.out)
  have HS2 : Hid (Blk V s [.int .i64 p, .int .i64 q] 32) := by rw [hV]; exact Blk.new' _ _ _ _ hs
  have HVE := hid (fun (_ : Nat) => hV)
  have HSE := hid (fun (_ : Nat) => hs)
  clear hV hs hb1 HI HWH
  go_upto_region 2 with fail
  rw [← HVE.out 0, ← HSE.out 0]
  clear HVE HSE
  have s0 : V.cell? ⟨s, 0, none⟩ = some (.int .i64 p) := HS2.out.cell 0
  have s1 : V.cell? ⟨s, 1, none⟩ = some (.int .i64 q) := HS2.out.cell 1
  cases ok with
  | false =>
    have hd : F i = none := by
      have h1 := HOE.out 0
      cases hF : F i with
      | none => rfl
      | some d => rw [hF] at h1; cases h1
    have hE : E = 3 := by rw [HE.out 0]; unfold takeE; rw [hd]; rfl
    subst hE
    have HD := hid hd
    clear hd
    go_wp2
    go_ret
    refine ⟨rfl, HB2.out.mono HBL.out, HK2.out, fa, ?_, Own2.refl _ _⟩
    unfold offA offN
    rw [remF_none HD.out, HD.out]
    exact HI2.out
  | true =>
    obtain ⟨d, hd⟩ : ∃ d, F i = some d := by
      have h1 := HOE.out 0
      cases hF : F i with
      | none => rw [hF] at h1; cases h1
      | some d => exact ⟨d, rfl⟩
    obtain rfl : d = (p, q) := by
      have h1 := HPQ.out
      rw [hd] at h1
      obtain ⟨a, c⟩ := d
      simp [cellV, C] at h1
      rw [h1.1, h1.2]
    have hE : E = 0 := by rw [HE.out 0]; unfold takeE; rw [hd]; rfl
    subst hE
    obtain ⟨ma, mw, him⟩ : ∃ ma mw, Im V b base ma mw fa A F n := by
      rcases HI2.out with ⟨⟨_, _, _, h4, _⟩, _⟩ | h1
      · rw [h4 i] at hd; cases hd
      · exact h1
    have hAi : i ∈ A (p, q) := (HOK.out.mem (p, q) i).2 hd
    have hal := HOK.out.len (p, q)
    have hlv := leave_any b base n ma mw fa A F i p q V him hd hAi (HOK.out.inc (p, q)) (by have := HN.out; omega) (Nat.le_trans HBL.out HB2.out.size)
    unfold C at hlv
    have HLV := hid hlv
    have HD := hid hd
    clear hlv hal hAi him hd HPQ HOE
    go_upto_region 4 with fail
    go_upto_region 5 with fail
    refine Calls.mono HLV.out ?_
    rintro _ V2 ⟨rfl, ⟨fb, him2, how2⟩, hb2, hk2⟩
    go_wp2
    go_ret
    refine ⟨rfl, (HB2.out.mono HBL.out).trans hb2, HK2.out.trans hk2, fb, ?_, how2.mono HB2.out.size⟩
    unfold offA offN
    rw [HD.out]
    exact Or.inr ⟨ma, mw, him2⟩
theorem take_any (b base n : Nat) (A : Cl → List Int) (F : Int → Option Cl) (i : Int) (w : World) (h : Ix w b base A F n) (hok : Ok A F n) (hn : n ≤ 4096) (hbase : base ≤ w.heap.size) :
    Calls Try.prog 18 #[.pointer (some ⟨b, 0, none⟩), .int .i64 i] w fun e w' => e = .returned (.int .i64 (takeE F i)) ∧ Below base w w' ∧ Kept w w' ∧ Ix w' b base (offA A F i) (remF F i) (offN F i n) := by
  obtain ⟨fa, hj⟩ := h.jx
  refine Calls.mono (take2_any b base n fa A F i w hj hok hn hbase) ?_
  rintro e w' ⟨he, h1, h2, _, h3, _⟩
  exact ⟨he, h1, h2.kept hj.rows, h3.ix⟩
end Go.Proofs.Ytnilgnnlobiojaa
