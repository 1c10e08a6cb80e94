/- The reference's Around 24. -/
import Derived.Test.YtnilgnnlobiojaaRarp
import Derived.Test.YtnilgnnlobiojaaFork
namespace Go.Proofs.Ytnilgnnlobiojaa
open Go.RowKit
/-- A world in which the reference's index, a pair of its, and the cell that is asked about are so. -/
structure Ka (b g : Nat) (sl : Value) (x y : Int) (sb off : Nat) (z1 z2 : Int) (V : World) where
  w : World
  g0 : w.cell? ⟨g, 0, none⟩ = some (.int .i64 x)
  g1 : w.cell? ⟨g, 1, none⟩ = some (.int .i64 y)
  b0 : w.cell? ⟨b, 0, none⟩ = some sl
  e1 : w.cell? ⟨sb, off + 1, none⟩ = some (.int .i64 z1)
  e2 : w.cell? ⟨sb, off + 2, none⟩ = some (.int .i64 z2)
  be : Below V.heap.size V w
theorem ringLen {A : Cl → List Int} {F : Int → Option Cl} {n : Nat} (hok : Ok A F n) {x y r : Int} {s : List Fd} (h : Ring F x y r s) : s.length ≤ n := by
  have h1 : Got F x y r (fun _ => false) s := ⟨h.2.1, fun p => (h.2.2 p).trans ⟨fun ⟨c, h1, h3⟩ => ⟨c, h1, rfl, h3⟩, fun ⟨c, h1, _, h3⟩ => ⟨c, h1, h3⟩⟩⟩
  exact h1.len hok
/-- What is told of a ring by the reference. -/
def OutRa (F : Int → Option Cl) (x y r : Int) (w : World) (e : Ending) (w' : World) : Prop := ∃ s, Ring F x y r s ∧ s.length ≤ 2000 ∧ OutI w (s.map Prod.fst) e w'
set_option maxRecDepth 20000 in
set_option maxHeartbeats 8000000 in
theorem raround_any (b base : Nat) (R : List Pr) (F : Int → Option Cl) (x y r : Int) (w : World) (h : Rx w b base R) (hr : Rep F R) (hn : R.length ≤ 2000) (hst : ∃ A n, Ok A F n ∧ n ≤ 2000) :
    Calls Try.prog 24 #[.pointer (some ⟨b, 0, none⟩), C x y, .int .i64 r] w fun e w' => OutRa F x y r w e w' := by
  obtain ⟨g, hg⟩ : ∃ g, g = w.heap.size := ⟨_, rfl⟩
  obtain ⟨W, hW⟩ : ∃ W, W = w.alloc (.cells #[.int .i64 x, .int .i64 y] 32) := ⟨_, rfl⟩
  have hB : Below w.heap.size w W := by rw [hW]; exact (Below.refl _ _).alloc (Nat.le_refl _) _
  have hG : Blk W g [.int .i64 x, .int .i64 y] 32 := by rw [hW]; exact Blk.new' _ _ _ _ hg
  obtain ⟨p, n, cap, hl, hb, ho, _⟩ := h.below hB
  have HBX := hid hb
  have HRW := hid (ho.row layP)
  have HL := hid (fun (_ : Nat) => hl)
  have hn6 : (n : Int) ≤ 2000 := by omega
  have HB := hid hB
  have HG := hid hG
  have HR := hid hr
  have HNN := hid hn
  have HST := hid hst
  have HDI := hid (refDist_any x y)
  obtain ⟨S, hS⟩ : ∃ S, S = W.heap.size := ⟨_, rfl⟩
  have HSE := hid (fun (_ : Nat) => hS)
  have HBS : Hid (Below S W W) := Below.refl _ _
  have HOS : Hid (OwnI W S (.slice none 0 0) (([] : List Fd).map Prod.fst)) := OwnI.nil _ _
  have HRB := hid (RB.zero F x y r)
  obtain ⟨Q, hQ⟩ : ∃ Q, Q = OutRa F x y r w := ⟨_, rfl⟩
  have HQ := hid (fun (_ : Nat) => hQ)
  rw [← hQ]
  clear hQ hB hG h hn hb ho hl hS hr hst
  unfold C at *
  go_enter Try.func24, Try.ntmps24
  go_upto_region 1 with fail
  rw [← hW, ← hg]
  clear hW hg
  go_upto_region 3 with fail
  go_wp2_with fail
  go_loopw [7, 8] (fun sv dv wr => ∃ (d m : Nat) (ps : Option Addr) (cs : Nat) (s : List Fd), sv = .slice ps m cs ∧ dv = .int .i64 (d : Int) ∧ d ≤ 4101 ∧ Hid (RB F x y r d s) ∧ Hid (m = s.length) ∧ Hid (Below S W wr) ∧ Hid (OwnI wr S (.slice ps m cs) (s.map Prod.fst))) (fun _ dv _ => 4101 - (intOf dv).toNat)
  case atStart => exact ⟨0, 0, none, 0, [], rfl, rfl, by omega, HRB, rfl, HBS, HOS⟩
  case round =>
    clear HBS HOS HRB
    obtain ⟨d, m, ps, cs, s, rfl, rfl, hd, HRB, HM, HB1, HO1⟩ := hrel
    obtain ⟨A0, n0, hok, hn0⟩ := HST.out
    have hmb := HRB.out.len hok
    rw [← HM.out] at hmb
    have HMB : Hid (m ≤ 2000) := hid (by omega)
    clear hok hmb hn0
    by_cases hgo : (d : Int) ≤ 4100 ∧ (d : Int) ≤ r
    · obtain ⟨h1, h2⟩ := hgo
      have hd1 : d ≤ 4100 := by omega
      have HD1 := hid h2
      have HM1 : Hid (m = m + (md x y (d : Int) (R.take 0)).length) := hid rfl
      have HO1' : Hid (OwnI wr S (.slice ps m cs) (s.map Prod.fst ++ md x y (d : Int) (R.take 0))) := by
        have h3 : md x y (d : Int) (R.take 0) = [] := rfl
        rw [h3, List.append_nil]; exact HO1
      go_upto_region 6 with fail
      go_wp2_with fail
      go_loopw [7, 9] (fun sv iv wi => ∃ (i m' : Nat) (ps' : Option Addr) (cs' : Nat), sv = .slice ps' m' cs' ∧ iv = .int .i64 (i : Int) ∧ i ≤ n ∧ Hid (m' = m + (md x y (d : Int) (R.take i)).length) ∧ Hid (Below S W wi) ∧ Hid (OwnI wi S (.slice ps' m' cs') (s.map Prod.fst ++ md x y (d : Int) (R.take i)))) (fun _ iv _ => n - (intOf iv).toNat)
      case atStart => exact ⟨0, m, ps, cs, rfl, rfl, Nat.zero_le _, HM1, HB1, HO1'⟩
      case round =>
        clear HM1 HO1' HB1 HO1
        obtain ⟨i, m', ps', cs', rfl, rfl, hi, HM2, HB2, HO2⟩ := hrel
        by_cases hlt : i < n
        · have hl' : (i : Int) < (n : Int) := by omega
          have hbr : Below W.heap.size W wr := by rw [← HSE.out 0]; exact HB2.out
          have hbx := HBX.out.below hbr HBX.out.lt
          have b0 : wr.cell? ⟨b, 0, none⟩ = some (.slice p n cap) := hbx.cell 0
          obtain ⟨hx, sb, so, hps, hsb, hcell⟩ := RowAt.pos layP (HRW.out.below hbr) i hlt
          obtain ⟨z0, z1, z2, hq⟩ : ∃ z0 z1 z2, R[i] = (z0, (z1, z2)) := ⟨_, _, _, rfl⟩
          have hwn := md_next x y (d : Int) hx
          rw [hq] at hwn
          simp only at hwn
          obtain ⟨Z, hZ⟩ : ∃ Z, Z = dist x y z1 z2 := ⟨_, rfl⟩
          rw [← hZ] at hwn
          have hdi := fun W' => HDI.out z1 z2 W'
          simp only [← hZ] at hdi
          have HDZ := hid hdi
          have e0 : ∀ Y, Below wr.heap.size wr Y → Y.cell? ⟨sb, so + i * 3, none⟩ = some (.int .i64 z0) := fun Y hy => by
            have h1 := hcell 0 (.int .i64 z0) (by rw [hq]; rfl)
            rw [hy.cell (p := ⟨sb, so + i * 3, none⟩) hsb]; exact h1
          have E0 := hid e0
          have key : ∀ Y, Below wr.heap.size wr Y → ∃ q : Ka b g (.slice p n cap) x y sb (so + i * 3) z1 z2 wr, Y = q.w := fun Y hy => by
            have h1 := HG.out.below (hbr.trans (hy.mono hbr.size)) HG.out.lt
            have h2 := hbx.below hy hbx.lt
            refine ⟨⟨Y, h1.cell 0, h1.cell 1, h2.cell 0, ?_, ?_, hy⟩, rfl⟩
            · rw [hy.cell (p := ⟨sb, so + i * 3 + 1, none⟩) hsb]; exact hcell 1 _ (by rw [hq]; rfl)
            · rw [hy.cell (p := ⟨sb, so + i * 3 + 2, none⟩) hsb]; exact hcell 2 _ (by rw [hq]; rfl)
          have HKEY := hid key
          have hml := md_len x y (d : Int) (R.take i)
          rw [List.length_take] at hml
          have HML := hid hml
          have hbS : S ≤ wr.heap.size := by rw [HSE.out 0]; exact hbr.size
          have HBS2 := hid hbS
          have b1 : ∀ Y, Below wr.heap.size wr Y → Y.cell? ⟨b, 0, none⟩ = some (.slice p n cap) := fun Y hy => (hbx.below hy hbx.lt).cell 0
          have B1 := hid b1
          subst hps
          clear hcell hq hZ hdi e0 key hml hbS hbx hbr hsb b1
          have k0 : ∀ q : Ka b g (.slice (some ⟨sb, so, none⟩) n cap) x y sb (so + i * 3) z1 z2 wr, q.w.cell? ⟨g, 0, none⟩ = some (.int .i64 x) := fun q => q.g0
          have k1 : ∀ q : Ka b g (.slice (some ⟨sb, so, none⟩) n cap) x y sb (so + i * 3) z1 z2 wr, q.w.cell? ⟨g, 1, none⟩ = some (.int .i64 y) := fun q => q.g1
          have k2 : ∀ q : Ka b g (.slice (some ⟨sb, so, none⟩) n cap) x y sb (so + i * 3) z1 z2 wr, q.w.cell? ⟨b, 0, none⟩ = some (.slice (some ⟨sb, so, none⟩) n cap) := fun q => q.b0
          have k3 : ∀ q : Ka b g (.slice (some ⟨sb, so, none⟩) n cap) x y sb (so + i * 3) z1 z2 wr, q.w.cell? ⟨sb, so + i * 3 + 1, none⟩ = some (.int .i64 z1) := fun q => q.e1
          have k4 : ∀ q : Ka b g (.slice (some ⟨sb, so, none⟩) n cap) x y sb (so + i * 3) z1 z2 wr, q.w.cell? ⟨sb, so + i * 3 + 2, none⟩ = some (.int .i64 z2) := fun q => q.e2
          obtain ⟨sm, hsm⟩ : ∃ sm, sm = (Z == (d : Int)) := ⟨_, rfl⟩
          have hsm' : (Z == (d : Int)) = sm := hsm.symm
          have HSM := hid (fun (_ : Nat) => hsm)
          clear hsm
          go_upto_region 8 with fail
          refine wp_region_calm (S := fun w' => ∃ q : Ka b g (.slice (some ⟨sb, so, none⟩) n cap) x y sb (so + i * 3) z1 z2 wr, w' = q.w) ((0, false) :: (1, false) :: (2, false) :: (3, false) :: (4, false) :: (5, false) :: (6, false) :: (7, false) :: (8, false) :: (10, false) :: (9, true) :: (11, false) :: []) rfl (by kernel_rfl) (by kernel_rfl) (by kernel_rfl) (HKEY.out _ (Below.drewN (Below.refl _ _) 1)) ?_
          iterate 10 (refine plan_take rfl (fun K hK => ?_); go_simp; (refine ⟨_, fun _ => rfl, hK _ ?_⟩); clear hK K)
          refine plan_turn rfl (fun K hK => ?_)
          go_simp
          refine Calls.mono (HDZ.out _) ?_
          rintro _ Y ⟨rfl, hby0⟩
          have hby : Below wr.heap.size wr Y := (Below.drewN (Below.refl _ _) 1).trans hby0
          refine hK _ _ (HKEY.out _ hby) ?_
          clear hK K hby0
          refine plan_take rfl (fun K hK => ?_)
          go_simp
          refine ⟨_, fun _ => rfl, hK _ ?_⟩
          clear hK K
          refine plan_done ⟨rfl, ?_⟩
          have HB3 : Hid (Below S W Y) := HB2.out.trans (hby.mono HBS2.out)
          have HO3 := hid (HO2.out.below hby)
          have e0 : Y.cell? ⟨sb, so + i * 3, none⟩ = some (.int .i64 z0) := E0.out Y hby
          have b0 : Y.cell? ⟨b, 0, none⟩ = some (.slice (some ⟨sb, so, none⟩) n cap) := B1.out Y hby
          have HSZ : Hid (S ≤ Y.heap.size) := Nat.le_trans HBS2.out hby.size
          clear hby HB2 HO2 k0 k1 k2 k3 k4 HKEY E0 B1 HDZ hsm'
          cases sm with
          | false =>
            have hne : ¬ Z = (d : Int) := by have := HSM.out 0; simpa using this.symm
            rw [if_neg hne] at hwn
            have HM3 := HM2
            rw [← hwn] at HM3 HO3
            clear hwn hne HM2
            go_wp2
            go_roundw
            case rel => exact ⟨i + 1, m', ps', cs', rfl, by simp, by omega, HM3, HB3, HO3⟩
            case measure => simp [intOf]; omega
          | true =>
            have heq : Z = (d : Int) := by have := HSM.out 0; simpa using this.symm
            rw [if_pos heq] at hwn
            have HWN := hid hwn
            obtain ⟨zs, hzs⟩ : ∃ zs, zs = s.map Prod.fst ++ md x y (d : Int) (R.take i) := ⟨_, rfl⟩
            have hzl : zs.length = m' := by rw [hzs, List.length_append, HM2.out]; simp [HM.out]
            have HZL : Hid (zs.length + [z0].length = m' + 1) := by rw [hzl]; exact hid rfl
            have HM6 : Hid (m' + 1 ≤ 1000000) := by have h1 := HML.out; have h2 := HM2.out; have h3 := HMB.out; have h4 := HNN.out; exact hid (by omega)
            have HZS := hid (fun (_ : Nat) => hzs)
            rw [← hzs] at HO3
            clear hwn heq hzs hzl
            obtain ⟨U, hU⟩ : ∃ U, U = Y.alloc (.cells #[.int .i64 z0] 3) := ⟨_, rfl⟩
            have hUB : Below Y.heap.size Y U := by rw [hU]; exact (Below.refl _ _).alloc (Nat.le_refl _) _
            have HUG : Hid (IntsAt U (.slice (some ⟨Y.heap.size, 0, none⟩) 1 1) [z0]) := by rw [hU]; exact ints_one Y _ z0 rfl
            have HBU := hid (HB3.out.trans (hUB.mono HSZ.out))
            have HOU := hid (HO3.out.below hUB)
            have HSU : Hid (S ≤ U.heap.size) := Nat.le_trans HSZ.out hUB.size
            rw [hU] at HUG HBU HOU HSU
            clear hU hUB HB3 HO3 HSZ
            go_wp2_with (first
              | ((with_reducible refine wpL_append S (.slice ps' m' cs') (.slice (some ⟨Y.heap.size, 0, none⟩) 1 1) zs [z0] (m' + 1) HZL.out ?_ ?_ HOU.out HUG.out (by have := HM6.out; omega) HSU.out ?_); (rfl); (rfl); (intro p5 c5 w5 ho5 hb5); (have HB5 := hid (HBU.out.trans hb5); have HO5 := hid ho5; clear ho5 hb5); (simp only [Act.put, List.setIfInBounds_toArray, List.set_cons_zero, List.set_cons_succ])))
            go_roundw
            case rel =>
              refine ⟨i + 1, m' + 1, p5, c5, rfl, by simp, by omega, ?_, HB5, ?_⟩
              · rw [HWN.out, List.length_append, HM2.out]; exact hid rfl
              · rw [HWN.out, ← List.append_assoc, ← HZS.out 0]; exact HO5
            case measure => simp [intOf]; omega
        · obtain rfl : i = n := by omega
          have hl' : ((i : Int) < (i : Int)) = False := by simp
          have hbr : Below W.heap.size W wr := by rw [← HSE.out 0]; exact HB2.out
          have b0 : wr.cell? ⟨b, 0, none⟩ = some (.slice p i cap) := (HBX.out.below hbr HBX.out.lt).cell 0
          have HNX := hid (HRB.out.next HR.out HD1.out)
          have hfull : R.take i = R := by rw [HL.out 0, List.take_length]
          rw [hfull] at HM2 HO2
          have HM3 : Hid (m' = (s ++ (md x y (d : Int) R).map fun i => (i, (d : Int))).length) := by
            rw [List.length_append, List.length_map, HM2.out, HM.out]; exact hid rfl
          have HO3 : Hid (OwnI wr S (.slice ps' m' cs') ((s ++ (md x y (d : Int) R).map fun i => (i, (d : Int))).map Prod.fst)) := by
            have h4 : ((md x y (d : Int) R).map fun i => (i, (d : Int))).map Prod.fst = md x y (d : Int) R := by
              rw [List.map_map]; exact (List.map_congr_left fun _ _ => rfl).trans (List.map_id _)
            rw [List.map_append, h4]; exact HO2
          clear hbr hfull HM2 HO2
          go_wp2
          go_roundw
          case rel => exact ⟨d + 1, m', ps', cs', _, rfl, by simp, by omega, HNX, HM3, HB2, HO3⟩
          case measure => simp [intOf]; omega
    · by_cases h1 : (d : Int) ≤ 4100
      · have h2 : ((d : Int) ≤ r) = False := by simp; omega
        have h1' : decide (d ≤ 4100) = true := decide_eq_true (by omega)
        have HD2 : Hid (4100 < (d : Int) ∨ r < (d : Int)) := hid (by omega)
        have hr6 : ((1000000 : Int) ≤ r) = False := by simp; omega
        have HR6 : Hid (r < 1000000) := hid (by simpa using hr6)
        have hbr : Below W.heap.size W wr := by rw [← HSE.out 0]; exact HB1.out
        have b0 : wr.cell? ⟨b, 0, none⟩ = some (.slice p n cap) := (HBX.out.below hbr HBX.out.lt).cell 0
        have hfin : OutRa F x y r w (.returned (.slice ps m cs)) wr := by
          refine ⟨s, HRB.out.ring HR6.out HD2.out, by rw [← HM.out]; exact HMB.out, ps, cs, ?_, ?_, ?_⟩
          · rw [List.length_map, ← HM.out]
          · rw [List.length_map, ← HM.out]
            exact HO1.out.mono (by rw [HSE.out 0]; exact HB.out.size)
          · exact HB.out.trans (HB1.out.mono (by rw [HSE.out 0]; exact HB.out.size))
        have HFIN := hid hfin
        clear hbr hfin
        go_upto_region 11 with fail
        go_wp2_with fail
        refine wp_loop_rounds 1 ?_
        rw [rounds_succ]
        rcases Nat.eq_zero_or_pos n with hn0 | hn0
        · have hn1 : ((0 : Int) < (n : Int)) = False := by simp; omega
          have hn2 : decide (0 < n) = false := decide_eq_false (by omega)
          clear hn0
          go_wp2
          rw [HQ.out 0]
          exact HFIN.out
        · have hn1 : (0 : Int) < (n : Int) := by omega
          have hn2 : decide (0 < n) = true := decide_eq_true hn0
          clear hn0
          go_wp2
          rw [HQ.out 0]
          exact HFIN.out
      · have h1' : ((d : Int) ≤ 4100) = False := by simp; omega
        have h1'' : decide (d ≤ 4100) = false := decide_eq_false (by omega)
        by_cases hr6 : (1000000 : Int) ≤ r
        · have HD2 : Hid (4100 < (d : Int)) := hid (by omega)
          have HD3 : Hid ((d : Int) ≤ 4101) := hid (by omega)
          have HR6 := hid hr6
          have HM1 : Hid (m = m + (md x y 1000000 (R.take 0)).length) := hid rfl
          have HO1' : Hid (OwnI wr S (.slice ps m cs) (s.map Prod.fst ++ md x y 1000000 (R.take 0))) := by
            have h3 : md x y 1000000 (R.take 0) = [] := rfl
            rw [h3, List.append_nil]; exact HO1
          go_upto_region 11 with fail
          go_wp2_with fail
          go_loopw [7, 10] (fun sv iv wi => ∃ (i m' : Nat) (ps' : Option Addr) (cs' : Nat), sv = .slice ps' m' cs' ∧ iv = .int .i64 (i : Int) ∧ i ≤ n ∧ Hid (m' = m + (md x y 1000000 (R.take i)).length) ∧ Hid (Below S W wi) ∧ Hid (OwnI wi S (.slice ps' m' cs') (s.map Prod.fst ++ md x y 1000000 (R.take i)))) (fun _ iv _ => n - (intOf iv).toNat)
          case atStart => exact ⟨0, m, ps, cs, rfl, rfl, Nat.zero_le _, HM1, HB1, HO1'⟩
          case round =>
            clear HM1 HO1' HB1 HO1
            obtain ⟨i, m', ps', cs', rfl, rfl, hi, HM2, HB2, HO2⟩ := hrel
            by_cases hlt : i < n
            · have hl' : (i : Int) < (n : Int) := by omega
              have hl2 : decide (i < n) = true := decide_eq_true hlt
              have hbr : Below W.heap.size W wr := by rw [← HSE.out 0]; exact HB2.out
              have hbx := HBX.out.below hbr HBX.out.lt
              have b0 : wr.cell? ⟨b, 0, none⟩ = some (.slice p n cap) := hbx.cell 0
              obtain ⟨hx, sb, so, hps, hsb, hcell⟩ := RowAt.pos layP (HRW.out.below hbr) i hlt
              obtain ⟨z0, z1, z2, hq⟩ : ∃ z0 z1 z2, R[i] = (z0, (z1, z2)) := ⟨_, _, _, rfl⟩
              have hwn := md_next x y 1000000 hx
              rw [hq] at hwn
              simp only at hwn
              obtain ⟨Z, hZ⟩ : ∃ Z, Z = dist x y z1 z2 := ⟨_, rfl⟩
              rw [← hZ] at hwn
              have hdi := fun W' => HDI.out z1 z2 W'
              simp only [← hZ] at hdi
              have HDZ := hid hdi
              have e0 : ∀ Y, Below wr.heap.size wr Y → Y.cell? ⟨sb, so + i * 3, none⟩ = some (.int .i64 z0) := fun Y hy => by
                have h1 := hcell 0 (.int .i64 z0) (by rw [hq]; rfl)
                rw [hy.cell (p := ⟨sb, so + i * 3, none⟩) hsb]; exact h1
              have E0 := hid e0
              have key : ∀ Y, Below wr.heap.size wr Y → ∃ q : Ka b g (.slice p n cap) x y sb (so + i * 3) z1 z2 wr, Y = q.w := fun Y hy => by
                have h1 := HG.out.below (hbr.trans (hy.mono hbr.size)) HG.out.lt
                have h2 := hbx.below hy hbx.lt
                refine ⟨⟨Y, h1.cell 0, h1.cell 1, h2.cell 0, ?_, ?_, hy⟩, rfl⟩
                · rw [hy.cell (p := ⟨sb, so + i * 3 + 1, none⟩) hsb]; exact hcell 1 _ (by rw [hq]; rfl)
                · rw [hy.cell (p := ⟨sb, so + i * 3 + 2, none⟩) hsb]; exact hcell 2 _ (by rw [hq]; rfl)
              have HKEY := hid key
              have hml := md_len x y 1000000 (R.take i)
              rw [List.length_take] at hml
              have HML := hid hml
              have hbS : S ≤ wr.heap.size := by rw [HSE.out 0]; exact hbr.size
              have HBS2 := hid hbS
              have b1 : ∀ Y, Below wr.heap.size wr Y → Y.cell? ⟨b, 0, none⟩ = some (.slice p n cap) := fun Y hy => (hbx.below hy hbx.lt).cell 0
              have B1 := hid b1
              subst hps
              clear hcell hq hZ hdi e0 key hml hbS hbx hbr hsb b1
              have k0 : ∀ q : Ka b g (.slice (some ⟨sb, so, none⟩) n cap) x y sb (so + i * 3) z1 z2 wr, q.w.cell? ⟨g, 0, none⟩ = some (.int .i64 x) := fun q => q.g0
              have k1 : ∀ q : Ka b g (.slice (some ⟨sb, so, none⟩) n cap) x y sb (so + i * 3) z1 z2 wr, q.w.cell? ⟨g, 1, none⟩ = some (.int .i64 y) := fun q => q.g1
              have k2 : ∀ q : Ka b g (.slice (some ⟨sb, so, none⟩) n cap) x y sb (so + i * 3) z1 z2 wr, q.w.cell? ⟨b, 0, none⟩ = some (.slice (some ⟨sb, so, none⟩) n cap) := fun q => q.b0
              have k3 : ∀ q : Ka b g (.slice (some ⟨sb, so, none⟩) n cap) x y sb (so + i * 3) z1 z2 wr, q.w.cell? ⟨sb, so + i * 3 + 1, none⟩ = some (.int .i64 z1) := fun q => q.e1
              have k4 : ∀ q : Ka b g (.slice (some ⟨sb, so, none⟩) n cap) x y sb (so + i * 3) z1 z2 wr, q.w.cell? ⟨sb, so + i * 3 + 2, none⟩ = some (.int .i64 z2) := fun q => q.e2
              obtain ⟨sm, hsm⟩ : ∃ sm, sm = (Z == 1000000) := ⟨_, rfl⟩
              have hsm' : (Z == 1000000) = sm := hsm.symm
              have HSM := hid (fun (_ : Nat) => hsm)
              clear hsm
              go_upto_region 13 with fail
              refine wp_region_calm (S := fun w' => ∃ q : Ka b g (.slice (some ⟨sb, so, none⟩) n cap) x y sb (so + i * 3) z1 z2 wr, w' = q.w) ((0, false) :: (1, false) :: (2, false) :: (3, false) :: (4, false) :: (5, false) :: (6, false) :: (7, false) :: (8, false) :: (9, true) :: (10, false) :: []) rfl (by kernel_rfl) (by kernel_rfl) (by kernel_rfl) (HKEY.out _ (Below.drewN (Below.refl _ _) 1)) ?_
              iterate 9 (refine plan_take rfl (fun K hK => ?_); go_simp; (refine ⟨_, fun _ => rfl, hK _ ?_⟩); clear hK K)
              refine plan_turn rfl (fun K hK => ?_)
              go_simp
              refine Calls.mono (HDZ.out _) ?_
              rintro _ Y ⟨rfl, hby0⟩
              have hby : Below wr.heap.size wr Y := (Below.drewN (Below.refl _ _) 1).trans hby0
              refine hK _ _ (HKEY.out _ hby) ?_
              clear hK K hby0
              refine plan_take rfl (fun K hK => ?_)
              go_simp
              refine ⟨_, fun _ => rfl, hK _ ?_⟩
              clear hK K
              refine plan_done ⟨rfl, ?_⟩
              have HB3 : Hid (Below S W Y) := HB2.out.trans (hby.mono HBS2.out)
              have HO3 := hid (HO2.out.below hby)
              have e0 : Y.cell? ⟨sb, so + i * 3, none⟩ = some (.int .i64 z0) := E0.out Y hby
              have b0 : Y.cell? ⟨b, 0, none⟩ = some (.slice (some ⟨sb, so, none⟩) n cap) := B1.out Y hby
              have HSZ : Hid (S ≤ Y.heap.size) := Nat.le_trans HBS2.out hby.size
              clear hby HB2 HO2 k0 k1 k2 k3 k4 HKEY E0 B1 HDZ hsm'
              cases sm with
              | false =>
                have hne : ¬ Z = 1000000 := by have := HSM.out 0; simpa using this.symm
                rw [if_neg hne] at hwn
                have HM3 := HM2
                rw [← hwn] at HM3 HO3
                clear hwn hne HM2
                go_wp2
                go_roundw
                case rel => exact ⟨i + 1, m', ps', cs', rfl, by simp, by omega, HM3, HB3, HO3⟩
                case measure => simp [intOf]; omega
              | true =>
                have heq : Z = 1000000 := by have := HSM.out 0; simpa using this.symm
                rw [if_pos heq] at hwn
                have HWN := hid hwn
                obtain ⟨zs, hzs⟩ : ∃ zs, zs = s.map Prod.fst ++ md x y 1000000 (R.take i) := ⟨_, rfl⟩
                have hzl : zs.length = m' := by rw [hzs, List.length_append, HM2.out]; simp [HM.out]
                have HZL : Hid (zs.length + [z0].length = m' + 1) := by rw [hzl]; exact hid rfl
                have HM6 : Hid (m' + 1 ≤ 1000000) := by have h1 := HML.out; have h2 := HM2.out; have h3 := HMB.out; have h4 := HNN.out; exact hid (by omega)
                have HZS := hid (fun (_ : Nat) => hzs)
                rw [← hzs] at HO3
                clear hwn heq hzs hzl
                obtain ⟨U, hU⟩ : ∃ U, U = Y.alloc (.cells #[.int .i64 z0] 3) := ⟨_, rfl⟩
                have hUB : Below Y.heap.size Y U := by rw [hU]; exact (Below.refl _ _).alloc (Nat.le_refl _) _
                have HUG : Hid (IntsAt U (.slice (some ⟨Y.heap.size, 0, none⟩) 1 1) [z0]) := by rw [hU]; exact ints_one Y _ z0 rfl
                have HBU := hid (HB3.out.trans (hUB.mono HSZ.out))
                have HOU := hid (HO3.out.below hUB)
                have HSU : Hid (S ≤ U.heap.size) := Nat.le_trans HSZ.out hUB.size
                rw [hU] at HUG HBU HOU HSU
                clear hU hUB HB3 HO3 HSZ
                go_wp2_with (first
                  | ((with_reducible refine wpL_append S (.slice ps' m' cs') (.slice (some ⟨Y.heap.size, 0, none⟩) 1 1) zs [z0] (m' + 1) HZL.out ?_ ?_ HOU.out HUG.out (by have := HM6.out; omega) HSU.out ?_); (rfl); (rfl); (intro p5 c5 w5 ho5 hb5); (have HB5 := hid (HBU.out.trans hb5); have HO5 := hid ho5; clear ho5 hb5); (simp only [Act.put, List.setIfInBounds_toArray, List.set_cons_zero, List.set_cons_succ])))
                go_roundw
                case rel =>
                  refine ⟨i + 1, m' + 1, p5, c5, rfl, by simp, by omega, ?_, HB5, ?_⟩
                  · rw [HWN.out, List.length_append, HM2.out]; exact hid rfl
                  · rw [HWN.out, ← List.append_assoc, ← HZS.out 0]; exact HO5
                case measure => simp [intOf]; omega
            · obtain rfl : i = n := by omega
              have hl' : ((i : Int) < (i : Int)) = False := by simp
              have hbr : Below W.heap.size W wr := by rw [← HSE.out 0]; exact HB2.out
              have b0 : wr.cell? ⟨b, 0, none⟩ = some (.slice p i cap) := (HBX.out.below hbr HBX.out.lt).cell 0
              have HNX := hid (HRB.out.ringFar HR.out HR6.out HD2.out HD3.out)
              have hfull : R.take i = R := by rw [HL.out 0, List.take_length]
              rw [hfull] at HM2 HO2
              have hfin : OutRa F x y r w (.returned (.slice ps' m' cs')) wr := by
                have h4 : (s ++ (md x y 1000000 R).map fun i => (i, (1000000 : Int))).map Prod.fst = s.map Prod.fst ++ md x y 1000000 R := by
                  rw [List.map_append, List.map_map]
                  congr 1
                  exact (List.map_congr_left fun _ _ => rfl).trans (List.map_id _)
                have h5 : (s.map Prod.fst ++ md x y 1000000 R).length = m' := by rw [List.length_append, List.length_map, HM2.out, HM.out]
                obtain ⟨A0, n0, hok, hn0⟩ := HST.out
                refine ⟨_, HNX.out, ?_, ps', cs', ?_, ?_, ?_⟩
                · have h6 := ringLen hok HNX.out
                  omega
                · rw [h4, h5]
                · rw [h4, h5]
                  exact HO2.out.mono (by rw [HSE.out 0]; exact HB.out.size)
                · exact HB.out.trans (HB2.out.mono (by rw [HSE.out 0]; exact HB.out.size))
              have HFIN := hid hfin
              clear hbr hfull HM2 HO2 hfin
              go_wp2
              rw [HQ.out 0]
              exact HFIN.out
        · clear hgo
          have HD2 : Hid (4100 < (d : Int) ∨ r < (d : Int)) := hid (by omega)
          have hr6 : ((1000000 : Int) ≤ r) = False := by simp; omega
          have HR6 : Hid (r < 1000000) := hid (by simpa using hr6)
          have hbr : Below W.heap.size W wr := by rw [← HSE.out 0]; exact HB1.out
          have b0 : wr.cell? ⟨b, 0, none⟩ = some (.slice p n cap) := (HBX.out.below hbr HBX.out.lt).cell 0
          have hfin : OutRa F x y r w (.returned (.slice ps m cs)) wr := by
            refine ⟨s, HRB.out.ring HR6.out HD2.out, by rw [← HM.out]; exact HMB.out, ps, cs, ?_, ?_, ?_⟩
            · rw [List.length_map, ← HM.out]
            · rw [List.length_map, ← HM.out]
              exact HO1.out.mono (by rw [HSE.out 0]; exact HB.out.size)
            · exact HB.out.trans (HB1.out.mono (by rw [HSE.out 0]; exact HB.out.size))
          have HFIN := hid hfin
          clear hbr hfin
          go_upto_region 11 with fail
          go_wp2_with fail
          refine wp_loop_rounds 1 ?_
          rw [rounds_succ]
          rcases Nat.eq_zero_or_pos n with hn0 | hn0
          · have hn1 : ((0 : Int) < (n : Int)) = False := by simp; omega
            have hn2 : decide (0 < n) = false := decide_eq_false (by omega)
            clear hn0
            go_wp2
            rw [HQ.out 0]
            exact HFIN.out
          · have hn1 : (0 : Int) < (n : Int) := by omega
            have hn2 : decide (0 < n) = true := decide_eq_true hn0
            clear hn0
            go_wp2
            rw [HQ.out 0]
            exact HFIN.out
end Go.Proofs.Ytnilgnnlobiojaa
