/- The law CellsOnce, walked. -/
import Derived.Test.YtnilgnnlobiojaaOnce
import Derived.Test.YtnilgnnlobiojaaEqc
import Derived.Test.YtnilgnnlobiojaaRowKit
import Derived.BigQuiet
namespace Go.Proofs.Ytnilgnnlobiojaa
open Go.RowKit
attribute [local go_sem ↓] run_neqC run_eqlC
theorem sq_of (z : Int) : 0 ≤ wrap64 ((IntKind.u64.wrap z).tmod 8) ∧ wrap64 ((IntKind.u64.wrap z).tmod 8) ≤ 7 := by
  have h0 : 0 ≤ IntKind.u64.wrap z := by
    simp only [IntKind.wrap, IntKind.bits, IntKind.signed]
    simp
    omega
  generalize IntKind.u64.wrap z = u at *
  rw [Int.tmod_eq_emod_of_nonneg h0]
  unfold wrap64
  omega
set_option maxRecDepth 200000 in
set_option maxHeartbeats 16000000 in
theorem once_walk (os : List Opn) (p : Option Addr) (M cap : Nat) (w : World) (hM : M = os.length) (hI : RowAt encO 5 w (.slice p M cap) os) :
    Calls Try.prog 4 #[.slice p M cap] w fun e w' => Out w (.bool true) e w' := by
  have HAW := hid awake_any
  have HI := hid hI
  clear hI
  unfold Out at *
  by_cases hbig : 200 < M
  · have hb1 : (200 : Int) < (M : Int) := by omega
    clear hM
    go_enter Try.func4, Try.ntmps4
    go_wp2_with fail
    refine Calls.mono (HAW.out _) ?_
    rintro _ W1 ⟨rfl, hb1⟩
    have HB1 := hid hb1
    clear hb1
    go_wp2_with fail
    refine Calls.mono (HAW.out _) ?_
    rintro _ W2 ⟨rfl, hb2⟩
    have HB2 := hid (HB1.out.trans (hb2.mono HB1.out.size))
    clear hb2
    go_wp2
    go_ret
    exact ⟨rfl, HB2.out⟩
  have hb1 : ((200 : Int) < (M : Int)) = False := by simp; omega
  have hM6 : (M : Int) ≤ 1000000 := by omega
  have HM200 : Hid (M ≤ 200) := hid (by omega)
  have HMO := hid (fun (_ : Nat) => hM)
  clear hM hbig
  go_enter Try.func4, Try.ntmps4
  go_wp2_with fail
  refine Calls.mono (HAW.out _) ?_
  rintro _ W1 ⟨rfl, hb1⟩
  have HB1 := hid hb1
  clear hb1 HAW
  obtain ⟨B, hB⟩ : ∃ B, B = W1.heap.size := ⟨_, rfl⟩
  obtain ⟨Z, hZ⟩ : ∃ Z, Z = W1.alloc (.cells #[.map none, .map none] 55) := ⟨_, rfl⟩
  have hnew := new_any W1
  rw [← hB, ← hZ] at hnew
  have hst : St Z B B (fun _ => none) (fun _ => none) 0 := by rw [hZ, hB]; exact St.new W1
  have hbz : Below B W1 Z := by rw [hZ, hB]; exact (Below.refl _ _).alloc (Nat.le_refl _) _
  have HNEW := hid hnew
  have HSZ := hid (show B ≤ Z.heap.size by rw [hZ, hB]; simp)
  have HBZ : Hid (Below B W1 Z) := hbz
  have HWB : Hid (w.heap.size ≤ B) := by rw [hB]; exact HB1.out.size
  have HIB : Hid (RowAt encO 5 W1 (.slice p M cap) os) := HI.out.below HB1.out
  have HBE := hid (fun (_ : Nat) => hB)
  have HST := hid hst
  have HSQ : Hid (InSq fun _ => none) := fun j c h => by cases h
  clear hnew hst hbz hB hZ HI
  go_upto_region 4 with fail
  refine Calls.mono HNEW.out ?_
  rintro _ W2 ⟨rfl, h2⟩
  subst h2
  clear HNEW
  go_upto_region 5 with fail
  go_wp2_with fail
  go_loopw [4] (fun iv wr => ∃ (i : Nat) (fa : Cl → Option Value) (F : Int → Option Cl) (n : Nat), iv = .int .i64 (i : Int) ∧ i ≤ M ∧ Hid (St wr B B fa F n) ∧ Hid (n ≤ i) ∧ Hid (InSq F) ∧ Hid (Below B W1 wr) ∧ Hid (B ≤ wr.heap.size)) (fun iv _ => M - (intOf iv).toNat)
  case atStart => exact ⟨0, _, _, 0, rfl, Nat.zero_le _, HST, Nat.le_refl _, HSQ, HBZ, HSZ⟩
  case round =>
    clear HST HBZ HSZ HSQ
    obtain ⟨i, fa, F, n, rfl, hi, HST, HNI, HSQ, HBR, HSR⟩ := hrel
    by_cases hlt : i < M
    · have hl' : (i : Int) < (M : Int) := by omega
      have hbr : Below W1.heap.size W1 wr := by rw [← HBE.out 0]; exact HBR.out
      obtain ⟨hx, sb, so, hps, hsb, hcell⟩ := RowAt.pos layO (HIB.out.below hbr) i hlt
      obtain ⟨o, ho⟩ : ∃ o, os[i] = o := ⟨_, rfl⟩
      obtain ⟨ok, oi, orr, ox, oy⟩ := o
      have e1 : wr.cell? ⟨sb, so + i * 5 + 1, none⟩ = some (.int .i64 oi) := hcell 1 (.int .i64 oi) (by rw [ho]; rfl)
      have e3 : wr.cell? ⟨sb, so + i * 5 + 3, none⟩ = some (.int .i64 ox) := hcell 3 (.int .i64 ox) (by rw [ho]; rfl)
      have e4 : wr.cell? ⟨sb, so + i * 5 + 4, none⟩ = some (.int .i64 oy) := hcell 4 (.int .i64 oy) (by rw [ho]; rfl)
      subst hps
      clear hbr hcell ho
      go_upto_region 7 with fail
      go_still_tail 25, (by kernel_rfl)
      go_wp2_with fail
      have hqa := sq_of ox
      have hqb := sq_of oy
      generalize wrap64 ((IntKind.u64.wrap ox).tmod 8) = a at *
      generalize wrap64 ((IntKind.u64.wrap oy).tmod 8) = b at *
      have hn200 : n < 4096 := by have := HNI.out; have := HM200.out; omega
      have hpe := putE_sq (F := F) hn200 oi hqa hqb
      have hput := (HST.out.below (Below.drewN (Below.refl _ _) 1)).put HSR.out oi a b
      have hpf : putF' F n oi (a, b) = insF F oi (a, b) := by unfold putF'; rw [if_pos hpe]
      rw [hpe, hpf] at hput
      have HQ2 := hid (HSQ.out.ins oi hqa hqb)
      unfold C at hput
      have HPUT := hid hput
      clear hput hpf hpe hqa hqb hn200
      refine Calls.mono HPUT.out ?_
      rintro _ Y ⟨rfl, hby, _, fa', hst', _⟩
      have HBY : Hid (Below B W1 Y) := (Below.drewN HBR.out 1).trans hby
      have HSY : Hid (B ≤ Y.heap.size) := Nat.le_trans HSR.out hby.size
      have HNY : Hid (putN F n oi (a, b) ≤ i + 1) := by
        have h1 := putN_le F n oi (a, b)
        have h2 := HNI.out
        exact hid (by omega)
      have HSTY := hid hst'
      clear hst' hby HPUT
      go_wp2
      go_roundw
      case rel => exact ⟨i + 1, fa', _, _, by simp, by omega, HSTY, HNY, HQ2, HBY, HSY⟩
      case measure => simp [intOf]; omega
    · obtain rfl : i = M := by omega
      have hl' : ((i : Int) < (i : Int)) = False := by simp
      have HNN : Hid (n ≤ 200) := by have := HNI.out; have := HM200.out; exact hid (by omega)
      have HCN := hid (Cnt.zero HSQ.out)
      have HBT : Hid (Below w.heap.size w wr) := HB1.out.trans (HBR.out.mono HWB.out)
      obtain ⟨S0, hS0⟩ : ∃ S0, S0 = wr := ⟨_, rfl⟩
      have HWR : Hid (Below S0.heap.size S0 wr) := by rw [hS0]; exact Below.refl _ _
      rw [← hS0] at HST HBT
      clear hS0
      clear HIB HMO HNI HM200 hM6 hi hlt HBR HSR HB1 HBE HWB
      go_upto_region 10 with fail
      go_wp2_with fail
      go_loopw [5, 6] (fun nv iv wi => ∃ (j : Nat) (L : List Int) (m : Nat), nv = .int .i64 (m : Int) ∧ iv = .int .i64 (j : Int) ∧ j ≤ 64 ∧ Hid (m = L.length) ∧ Hid (Cnt F j L) ∧ Hid (Below S0.heap.size S0 wi)) (fun _ iv _ => 64 - (intOf iv).toNat)
      case atStart => exact ⟨0, [], 0, rfl, rfl, by omega, rfl, HCN, HWR⟩
      case round =>
        clear HWR HCN
        obtain ⟨j, L, m, rfl, rfl, hj, HM, HCN, HW⟩ := hrel
        by_cases hjl : j < 64
        · have hj' : (j : Int) < 64 := by omega
          obtain ⟨X, hX⟩ : ∃ X, X = Int.tmod (j : Int) 8 := ⟨_, rfl⟩
          obtain ⟨Y, hY⟩ : ∃ Y, Y = Int.tdiv (j : Int) 8 := ⟨_, rfl⟩
          have hX2 : X = (j : Int) % 8 := by rw [hX, Int.tmod_eq_emod_of_nonneg (by omega)]
          have hY2 : Y = (j : Int) / 8 := by rw [hY, Int.tdiv_eq_ediv_of_nonneg (by omega)]
          have HX2 := hid (fun (_ : Nat) => hX2)
          have HY2 := hid (fun (_ : Nat) => hY2)
          have hY3 : 0 ≤ Y ∧ Y ≤ 8 := by omega
          obtain ⟨hY4, hY5⟩ := hY3
          obtain ⟨g, hg⟩ : ∃ g, g = wr.heap.size := ⟨_, rfl⟩
          obtain ⟨U, hU⟩ : ∃ U, U = wr.alloc (.cells #[.int .i64 X, .int .i64 Y] 32) := ⟨_, rfl⟩
          have hub : Below wr.heap.size wr U := by rw [hU]; exact (Below.refl _ _).alloc (Nat.le_refl _) _
          have HGU : Hid (Blk U g [.int .i64 X, .int .i64 Y] 32) := by rw [hU]; exact Blk.new' _ _ _ _ hg
          have HBU : Hid (Below S0.heap.size S0 U) := HW.out.trans (hub.mono HW.out.size)
          have HSU := hid (HST.out.below HBU.out)
          have HUE := hid (fun (_ : Nat) => hU)
          have HGE := hid (fun (_ : Nat) => hg)
          have hX' : Int.tmod (j : Int) 8 = X := hX.symm
          have hY' : Int.tdiv (j : Int) 8 = Y := hY.symm
          have g0 : U.cell? ⟨g, 0, none⟩ = some (.int .i64 X) := HGU.out.cell 0
          have g1 : U.cell? ⟨g, 1, none⟩ = some (.int .i64 Y) := HGU.out.cell 1
          clear hub hU hg hX hY hX2 hY2 HW
          go_upto_region 13 with fail
          rw [← HUE.out 0, ← HGE.out 0]
          clear HUE HGE
          have hwho := HSU.out.who X Y
          unfold C at hwho
          have HWHO := hid hwho
          clear hwho
          go_upto_region 14 with fail
          refine Calls.mono HWHO.out ?_
          rintro _ W3 ⟨l, hat, hln, pl, cl, rfl, hol, hb3⟩
          obtain ⟨N, hN⟩ : ∃ N, N = l.length := ⟨_, rfl⟩
          rw [← hN] at hol hln
          rw [← hN]
          have hstep := HCN.out.step HSQ.out (HX2.out 0) (HY2.out 0) hat
          have HG3 := hid (HGU.out.below hb3 HGU.out.lt)
          have HB3 : Hid (Below S0.heap.size S0 W3) := HBU.out.trans (hb3.mono HBU.out.size)
          have HS3 := hid (HST.out.below HB3.out)
          have hcl := HST.out.cnt hstep
          rw [List.length_append, ← HM.out, ← hN] at hcl
          have hm1 : (m : Int) ≤ 200 := by have := HNN.out; omega
          have hm2 : (N : Int) ≤ 200 := by have := HNN.out; omega
          have HM2 : Hid (m + N = (L ++ l).length) := by rw [List.length_append, ← HM.out, ← hN]; exact hid rfl
          have HCN2 := hid hstep
          have HAT := hid hat
          have HOL := hid hol.ints
          have HNE := hid (fun (_ : Nat) => hN)
          have HW3 : Hid (Below W3.heap.size W3 W3) := Below.refl _ _
          clear hN hol hln hstep hcl hat hb3 HWHO HGU HBU HSU g0 g1 hX' hY' HX2 HY2 HCN HM hY4 hY5
          go_upto_region 16 with fail
          go_wp2_with fail
          go_loopw [9] (fun kv wi => ∃ k : Nat, kv = .int .i64 (k : Int) ∧ k ≤ N ∧ Hid (Below W3.heap.size W3 wi)) (fun kv _ => N - (intOf kv).toNat)
          case atStart => exact ⟨0, rfl, Nat.zero_le _, HW3⟩
          case round =>
            clear HW3
            obtain ⟨k, rfl, hk, HW⟩ := hrel
            by_cases hkl : k < N
            · have hk' : (k : Int) < (N : Int) := by omega
              have hkb : k < l.length := by have := HNE.out 0; omega
              obtain ⟨qb, qo, hpl, hcell⟩ := (HOL.out.below HW.out).pos k hkl
              obtain ⟨z, hz⟩ : ∃ z, z = l[k] := ⟨_, rfl⟩
              have ek : wr.cell? ⟨qb, qo + k, none⟩ = some (.int .i64 z) := by
                rw [hcell k hkl, hz]
                simp [List.getD, List.getElem?_eq_getElem hkb]
              have hFz : F z = some (X, Y) := (HAT.out.2 z).1 (by rw [hz]; exact List.getElem_mem hkb)
              have hwh : whV F z = .tuple #[.agg #[.int .i64 X, .int .i64 Y], .bool true] := by unfold whV; rw [hFz]; rfl
              have h14 := (HS3.out.below HW.out).where z
              rw [hwh] at h14
              have H14 := hid h14
              have HZE := hid (fun (_ : Nat) => hz)
              subst hpl
              clear hcell hz hFz hwh h14
              go_upto_region 19 with (go_at_call 14; refine Calls.mono H14.out ?_; rintro _ U1 ⟨rfl, hbx⟩)
              obtain ⟨U2, hU2⟩ : ∃ U2, U2 = U1.alloc (.cells #[.int .i64 X, .int .i64 Y] 32) := ⟨_, rfl⟩
              obtain ⟨sa1, hsa⟩ : ∃ sa1, sa1 = U1.heap.size := ⟨_, rfl⟩
              have hb2 : Below wr.heap.size wr U2 := by rw [hU2]; exact hbx.alloc hbx.size _
              have HSA : Hid (Blk U2 sa1 [.int .i64 X, .int .i64 Y] 32) := by rw [hU2]; exact Blk.new' _ _ _ _ hsa
              rw [← hU2, ← hsa]
              have HBU : Hid (Below W3.heap.size W3 U2) := HW.out.trans (hb2.mono HW.out.size)
              have HGU := hid (HG3.out.below HBU.out HG3.out.lt)
              have g0 : U2.cell? ⟨g, 0, none⟩ = some (.int .i64 X) := HGU.out.cell 0
              have g1 : U2.cell? ⟨g, 1, none⟩ = some (.int .i64 Y) := HGU.out.cell 1
              have s0 : U2.cell? ⟨sa1, 0, none⟩ = some (.int .i64 X) := HSA.out.cell 0
              have s1 : U2.cell? ⟨sa1, 1, none⟩ = some (.int .i64 Y) := HSA.out.cell 1
              have hse := sameC_self X Y
              clear hbx hb2 hU2 hsa H14 ek HW
              obtain ⟨b', o', e, hc⟩ := (HOL.out.below HBU.out).pos k hkl
              simp only [Option.some.injEq, Addr.mk.injEq] at e
              obtain ⟨rfl, rfl, -⟩ := e
              rcases Nat.eq_zero_or_pos k with hk0 | hk0
              · have hkz : decide (0 < k) = false := decide_eq_false (by omega)
                clear hk0 hc
                go_quiet (fail)
                all_goals go_wp2
                all_goals go_roundw
                case rel => exact ⟨k + 1, by simp, by omega, Below.drewN HBU.out _⟩
                case measure => simp [intOf]; omega
              · have hkz : decide (0 < k) = true := decide_eq_true hk0
                obtain ⟨t, ht⟩ : ∃ t, t = k - 1 := ⟨_, rfl⟩
                have hkw : IntKind.i64.wrap ((k : Int) - 1) = (t : Int) := by rw [IntKind.wrap_i64]; omega
                have htl : t < N := by omega
                have htb : t < l.length := by omega
                obtain ⟨z', hz'⟩ : ∃ z', z' = l[t] := ⟨_, rfl⟩
                have ek : U2.cell? ⟨qb, qo + k, none⟩ = some (.int .i64 z) := by
                  rw [hc k hkl, HZE.out 0]
                  simp [List.getD, List.getElem?_eq_getElem hkb]
                have et : U2.cell? ⟨qb, qo + t, none⟩ = some (.int .i64 z') := by
                  rw [hc t htl, hz']
                  simp [List.getD, List.getElem?_eq_getElem htb]
                have hzz : z' < z := by
                  rw [hz', HZE.out 0]
                  exact List.pairwise_iff_getElem.1 HAT.out.1 t k htb hkb (by omega)
                have f3 : (z ≤ z') = False := by simp; omega
                clear hk0 hc hz' hzz ht
                go_quiet (fail)
                all_goals go_wp2
                all_goals go_roundw
                case rel => exact ⟨k + 1, by simp, by omega, Below.drewN HBU.out _⟩
                case measure => simp [intOf]; omega
            · obtain rfl : k = N := by omega
              have hk' : ((k : Int) < (k : Int)) = False := by simp
              go_wp2
              go_roundw
              case rel => exact ⟨j + 1, L ++ l, m + k, by simp, by simp, by omega, HM2, HCN2, HB3.out.trans (HW.out.mono HB3.out.size)⟩
              case measure => simp [intOf]; omega
        · obtain rfl : j = 64 := by omega
          have hj' : (((64 : Nat) : Int) < 64) = False := by simp
          have hmn : m = n := HM.out.trans (HST.out.cntAll HSQ.out HCN.out)
          subst hmn
          have HSW := hid (HST.out.below HW.out)
          have hle := HSW.out.len
          have har := HSW.out.around 0 0 14
          unfold C at har
          have HLE := hid hle
          have HAR := hid har
          have HSS : Hid (∀ s, Ring F 0 0 14 s → s.length = m) := fun s hs => HST.out.ringAll HSQ.out hs
          have hm1 : (m : Int) ≤ 200 := by have := HNN.out; omega
          have HBW : Hid (Below w.heap.size w wr) := HBT.out.trans (HW.out.mono HBT.out.size)
          clear hle har HM HCN HW HST hj hjl
          go_wp2_with fail
          refine Calls.mono HLE.out ?_
          rintro _ W9 ⟨rfl, h9⟩
          replace h9 := h9.symm
          subst h9
          go_wp2_with fail
          refine Calls.mono HAR.out ?_
          rintro _ W5 ⟨s, hring, _, ps, cs, rfl, _, hb5⟩
          have hsl : (s.map Prod.fst).length = m := by rw [List.length_map]; exact HSS.out s hring
          rw [hsl]
          have HB5 := hid (HBW.out.trans (hb5.mono HBW.out.size))
          clear hring hb5 hsl HLE HAR
          go_wp2
          go_ret
          exact ⟨rfl, HB5.out⟩
end Go.Proofs.Ytnilgnnlobiojaa
