/- The reference's Where 22 and Who 23. -/
import Derived.Test.YtnilgnnlobiojaaRefp
import Derived.Test.YtnilgnnlobiojaaEqc
namespace Go.Proofs.Ytnilgnnlobiojaa
open Go.RowKit
attribute [local go_sem ↓] run_neqC run_eqlC
set_option maxRecDepth 20000 in
set_option maxHeartbeats 4000000 in
theorem rwhere_any (b base : Nat) (R : List Pr) (F : Int → Option Cl) (i : Int) (w : World) (h : Rx w b base R) (hr : Rep F R) (hn : R.length ≤ 2000) :
    Calls Try.prog 22 #[.pointer (some ⟨b, 0, none⟩), .int .i64 i] w fun e w' => Out w (whV F i) e w' := by
  obtain ⟨g, hg⟩ : ∃ g, g = w.heap.size := ⟨_, rfl⟩
  obtain ⟨W, hW⟩ : ∃ W, W = w.alloc (.cells #[.int .i64 0, .int .i64 0] 32) := ⟨_, rfl⟩
  have hB : Below w.heap.size w W := by rw [hW]; exact (Below.refl _ _).alloc (Nat.le_refl _) _
  have hG : Blk W g [.int .i64 0, .int .i64 0] 32 := by rw [hW]; exact Blk.new' _ _ _ _ hg
  have HFD := hid (find_any b base R i W (h.below hB) (by omega))
  have HX := hid (h.below hB)
  have HB := hid hB
  have HG := hid hG
  have HR := hid hr
  have HGE := hid (fun (_ : Nat) => hg)
  have HNN := hid hn
  clear hB hG h hr hn
  have g0 : W.cell? ⟨g, 0, none⟩ = some (.int .i64 0) := HG.out.cell 0
  have f0 : W.frozen? ⟨g, 0, none⟩ = false := HG.out.frozen 0
  have hgb : w.heap.size ≤ g := by rw [hg]; exact Nat.le_refl _
  have HGB := hid hgb
  clear hgb
  unfold Out
  go_enter Try.func22, Try.ntmps22
  go_upto_region 2 with fail
  rw [← hW, ← hg]
  clear hW hg
  refine Calls.mono HFD.out ?_
  rintro _ w' ⟨hfd, hw⟩
  replace hw := hw.symm
  subst hw
  rcases hfd with ⟨hno, rfl⟩ | ⟨k, hk, hki, rfl⟩
  · have hF := HR.out.none hno
    have hv : whV F i = .tuple #[.agg #[.int .i64 0, .int .i64 0], .bool false] := by unfold whV; rw [hF]; rfl
    have HV := hid hv
    have g1 : (W.setCell ⟨g, 0, none⟩ (.int .i64 0)).cell? ⟨g, 1, none⟩ = some (.int .i64 0) := (HG.out.set 0 _).cell 1
    have f1 : (W.setCell ⟨g, 0, none⟩ (.int .i64 0)).frozen? ⟨g, 1, none⟩ = false := (HG.out.set 0 _).frozen 1
    clear hno hF hv
    go_wp2
    exact bodyPost_ret (results_cell_tmp Try.results22 rfl rfl ((HG.out.set 0 (.int .i64 0)).set 1 (.int .i64 0)) Try.underlying32 rfl size32) rfl ⟨by rw [HV.out]; rfl, (HB.out.setCell HGB.out _).setCell HGB.out _⟩
  · have hF := HR.out.some hk
    rw [hki] at hF
    obtain ⟨⟨a, c⟩, hac⟩ : ∃ ac : Cl, R[k].2 = ac := ⟨_, rfl⟩
    rw [hac] at hF
    have hv : whV F i = .tuple #[.agg #[.int .i64 a, .int .i64 c], .bool true] := by unfold whV; rw [hF]; rfl
    have HV := hid hv
    obtain ⟨p, n, cap, hl, hb, ho, hbb⟩ := HX.out
    have b0 : W.cell? ⟨b, 0, none⟩ = some (.slice p n cap) := hb.cell 0
    have hkn : k < n := by omega
    have hkn' : (k : Int) < (n : Int) := by omega
    obtain ⟨hx, sb, so, rfl, hsb, hcell⟩ := RowAt.pos layP (ho.row layP) k hkn
    have e1 : W.cell? ⟨sb, so + k * 3 + 1, none⟩ = some (.int .i64 a) := hcell 1 _ (by unfold encP; rw [hac]; rfl)
    have e2 : W.cell? ⟨sb, so + k * 3 + 2, none⟩ = some (.int .i64 c) := hcell 2 _ (by unfold encP; rw [hac]; rfl)
    have g1 : (W.setCell ⟨g, 0, none⟩ (.int .i64 a)).cell? ⟨g, 1, none⟩ = some (.int .i64 0) := (HG.out.set 0 _).cell 1
    have f1 : (W.setCell ⟨g, 0, none⟩ (.int .i64 a)).frozen? ⟨g, 1, none⟩ = false := (HG.out.set 0 _).frozen 1
    clear hF hv hac hl hb ho hbb hcell hki hk hkn hsb
    go_wp2
    exact bodyPost_ret (results_cell_tmp Try.results22 rfl rfl ((HG.out.set 0 (.int .i64 a)).set 1 (.int .i64 c)) Try.underlying32 rfl size32) rfl ⟨by rw [HV.out]; rfl, (HB.out.setCell HGB.out _).setCell HGB.out _⟩
/-- Who is at a cell, of the first k pairs. -/
def wl (c : Cl) (R : List Pr) : List Int := (R.filter fun p => decide (p.2 = c)).map Prod.fst
theorem wl_next (c : Cl) {R : List Pr} {k : Nat} (hk : k < R.length) : wl c (R.take (k + 1)) = if R[k].2 = c then wl c (R.take k) ++ [R[k].1] else wl c (R.take k) := by
  unfold wl
  rw [List.take_succ_eq_append_getElem hk, List.filter_append, List.map_append]
  by_cases h : R[k].2 = c
  · rw [if_pos h, List.filter_cons_of_pos (by simpa using h)]; rfl
  · rw [if_neg h, List.filter_cons_of_neg (by simpa using h)]; simp
theorem wl_at {F : Int → Option Cl} {R : List Pr} (h : Rep F R) (c : Cl) : At F c (wl c R) := by
  unfold wl
  refine ⟨List.pairwise_map.2 (h.1.filter _), fun i => ?_⟩
  rw [List.mem_map, ← h.2]
  constructor
  · rintro ⟨⟨j, d⟩, hm, rfl⟩
    rw [List.mem_filter] at hm
    have : d = c := by simpa using hm.2
    subst this
    exact hm.1
  · intro hm
    exact ⟨(i, c), List.mem_filter.2 ⟨hm, by simp⟩, rfl⟩
theorem wl_len (c : Cl) (R : List Pr) : (wl c R).length ≤ R.length := by
  unfold wl
  rw [List.length_map]
  exact List.length_filter_le _ _
set_option maxRecDepth 20000 in
set_option maxHeartbeats 4000000 in
theorem rwho_any (b base : Nat) (R : List Pr) (x y : Int) (w : World) (h : Rx w b base R) (hn : R.length ≤ 2000) :
    Calls Try.prog 23 #[.pointer (some ⟨b, 0, none⟩), C x y] w fun e w' => OutI w (wl (x, y) R) e w' := by
  obtain ⟨g, hg⟩ : ∃ g, g = w.heap.size := ⟨_, rfl⟩
  obtain ⟨W, hW⟩ : ∃ W, W = w.alloc (.cells #[.int .i64 x, .int .i64 y] 32) := ⟨_, rfl⟩
  have hB : Below w.heap.size w W := by rw [hW]; exact (Below.refl _ _).alloc (Nat.le_refl _) _
  have hG : Blk W g [.int .i64 x, .int .i64 y] 32 := by rw [hW]; exact Blk.new' _ _ _ _ hg
  obtain ⟨p, n, cap, hl, hb, ho, _⟩ := h.below hB
  have HBX := hid hb
  have HRW := hid (ho.row layP)
  have HL := hid (fun (_ : Nat) => hl)
  have hn6 : (n : Int) ≤ 2000 := by omega
  have HB := hid hB
  have HG := hid hG
  have HNN := hid hn
  obtain ⟨S, hS⟩ : ∃ S, S = W.heap.size := ⟨_, rfl⟩
  have HSE := hid (fun (_ : Nat) => hS)
  have HBS : Hid (Below S W W) := Below.refl _ _
  have HOS : Hid (OwnI W S (.slice none 0 0) (wl (x, y) (R.take 0))) := OwnI.nil _ _
  obtain ⟨Q, hQ⟩ : ∃ Q, Q = fun e w' => OutI w (wl (x, y) R) e w' := ⟨_, rfl⟩
  have HQ := hid (fun (_ : Nat) => hQ)
  have hQe : ∀ e w', OutI w (wl (x, y) R) e w' = Q e w' := fun e w' => by rw [hQ]
  simp only [hQe]
  clear hQ hQe hB hG h hn hb ho hl hS
  unfold C
  go_enter Try.func23, Try.ntmps23
  go_upto_region 1 with fail
  rw [← hW, ← hg]
  clear hW hg
  go_upto_region 3 with fail
  go_wp2_with fail
  go_loopw [5, 6] (fun sv iv wr => ∃ (i m : Nat) (ps : Option Addr) (cs : Nat), sv = .slice ps m cs ∧ iv = .int .i64 (i : Int) ∧ i ≤ n ∧ Hid (m = (wl (x, y) (R.take i)).length) ∧ Hid (Below S W wr) ∧ Hid (OwnI wr S (.slice ps m cs) (wl (x, y) (R.take i)))) (fun _ iv _ => n - (intOf iv).toNat)
  case atStart => exact ⟨0, 0, none, 0, rfl, rfl, Nat.zero_le _, rfl, HBS, HOS⟩
  case round =>
    clear HBS HOS
    obtain ⟨i, m, ps, cs, rfl, rfl, hi, HM, HB3, HO3⟩ := hrel
    have hbr : Below W.heap.size W wr := by rw [← HSE.out 0]; exact HB3.out
    have hbx := HBX.out.below hbr HBX.out.lt
    have b0 : wr.cell? ⟨b, 0, none⟩ = some (.slice p n cap) := hbx.cell 0
    by_cases hlt : i < n
    · have hl' : (i : Int) < (n : Int) := by omega
      have hgx := HG.out.below hbr HG.out.lt
      have g0 : wr.cell? ⟨g, 0, none⟩ = some (.int .i64 x) := hgx.cell 0
      have g1 : wr.cell? ⟨g, 1, none⟩ = some (.int .i64 y) := hgx.cell 1
      obtain ⟨hx, sb, so, hps, hsb, hcell⟩ := RowAt.pos layP (HRW.out.below hbr) i hlt
      obtain ⟨z0, z1, z2, hq⟩ : ∃ z0 z1 z2, R[i] = (z0, (z1, z2)) := ⟨_, _, _, rfl⟩
      have e0 : wr.cell? ⟨sb, so + i * 3, none⟩ = some (.int .i64 z0) := by have := hcell 0 (.int .i64 z0) (by rw [hq]; rfl); exact this
      have e1 : wr.cell? ⟨sb, so + i * 3 + 1, none⟩ = some (.int .i64 z1) := hcell 1 _ (by rw [hq]; rfl)
      have e2 : wr.cell? ⟨sb, so + i * 3 + 2, none⟩ = some (.int .i64 z2) := hcell 2 _ (by rw [hq]; rfl)
      have hwn := wl_next (x, y) hx
      rw [hq] at hwn
      have hml := wl_len (x, y) (R.take i)
      rw [← HM.out, List.length_take] at hml
      have hm6 : m + 1 ≤ 1000000 := by have := HNN.out; omega
      have HM6 := hid hm6
      subst hps
      clear hcell hq hbr hbx hgx hml hm6
      obtain ⟨sm, hsm⟩ : ∃ sm, sm = sameC z1 z2 x y := ⟨_, rfl⟩
      have hsm' : sameC z1 z2 x y = sm := hsm.symm
      have HSM := hid (fun (_ : Nat) => hsm)
      clear hsm
      go_upto_region 5 with fail
      go_quiet (fail)
      rename_i nq
      obtain ⟨D, hD⟩ : ∃ D, D = wr.drewN nq := ⟨_, rfl⟩
      have HB4 : Hid (Below S W D) := by rw [hD]; exact Below.drewN HB3.out nq
      have HO4 : Hid (OwnI D S (.slice ps m cs) (wl (x, y) (R.take i))) := by rw [hD]; exact HO3.out
      have b4 : D.cell? ⟨b, 0, none⟩ = some (.slice (some ⟨sb, so, none⟩) n cap) := by rw [hD]; exact b0
      have e4 : D.cell? ⟨sb, so + i * 3, none⟩ = some (.int .i64 z0) := by rw [hD]; exact e0
      have hsz : S ≤ D.heap.size := by rw [hD, HSE.out 0]; exact Nat.le_trans (by rw [HSE.out 0] at HB3; exact HB3.out.size) (Nat.le_refl _)
      have HSZ := hid hsz
      rw [← hD]
      clear hD b0 e0 e1 e2 g0 g1 HB3 HO3 hsz hsm'
      cases sm with
      | false =>
        have hne : ¬ (z1, z2) = (x, y) := by
          have := HSM.out 0
          unfold sameC at this
          simpa using this.symm
        rw [if_neg hne] at hwn
        have HM2 := HM
        rw [← hwn] at HM2 HO4
        clear hwn hne HM
        go_wp2
        go_roundw
        case rel => exact ⟨i + 1, m, ps, cs, rfl, by simp, by omega, HM2, HB4, HO4⟩
        case measure => simp [intOf]; omega
      | true =>
        have heq : (z1, z2) = (x, y) := by
          have := HSM.out 0
          unfold sameC at this
          simpa using this.symm
        rw [if_pos heq] at hwn
        have HWN := hid hwn
        have hml : (wl (x, y) (R.take i)).length + [z0].length = m + 1 := by rw [← HM.out]; rfl
        have HML := hid hml
        clear hwn heq hml
        obtain ⟨zs, hzs⟩ : ∃ zs, zs = wl (x, y) (R.take i) := ⟨_, rfl⟩
        rw [← hzs] at HO4 HML HWN HM
        obtain ⟨U, hU⟩ : ∃ U, U = D.alloc (.cells #[.int .i64 z0] 3) := ⟨_, rfl⟩
        have hUB : Below D.heap.size D U := by rw [hU]; exact (Below.refl _ _).alloc (Nat.le_refl _) _
        have HUG : Hid (IntsAt U (.slice (some ⟨D.heap.size, 0, none⟩) 1 1) [z0]) := by rw [hU]; exact ints_one D _ z0 rfl
        have HBU := hid (HB4.out.trans (hUB.mono HSZ.out))
        have HOU := hid (HO4.out.below hUB)
        have HSU : Hid (S ≤ U.heap.size) := Nat.le_trans HSZ.out hUB.size
        rw [hU] at HUG HBU HOU HSU
        clear hU hUB HB4 HO4 HSZ hzs
        go_wp2_with (first
          | ((with_reducible refine wpL_append S (.slice ps m cs) (.slice (some ⟨D.heap.size, 0, none⟩) 1 1) zs [z0] (m + 1) HML.out ?_ ?_ HOU.out HUG.out (by have := HM6.out; omega) HSU.out ?_); (rfl); (rfl); (intro p5 c5 w5 ho5 hb5); (have HB5 := hid (HBU.out.trans hb5); have HM5 : Hid (m + 1 = (zs ++ [z0]).length) := by rw [List.length_append, ← HM.out]; exact hid rfl); (rw [← HWN.out] at ho5 HM5); (have HO5 := hid ho5; clear ho5 hb5); (simp only [Act.put, List.setIfInBounds_toArray, List.set_cons_zero, List.set_cons_succ])))
        go_roundw
        case rel => exact ⟨i + 1, m + 1, p5, c5, rfl, by simp, by omega, HM5, HB5, HO5⟩
        case measure => simp [intOf]; omega
    · obtain rfl : i = n := by omega
      have hl' : ((i : Int) < (i : Int)) = False := by simp
      clear hbr hbx
      go_wp2
      rw [HQ.out 0]
      have h1 := HL.out 0
      have h2 := HO3.out
      have h3 := HM.out
      rw [h1, List.take_length] at h2 h3
      refine ⟨ps, cs, ?_, ?_, ?_⟩
      · rw [← h3]; rfl
      · rw [← h3]
        exact h2.mono (by rw [HSE.out 0]; exact HB.out.size)
      · exact HB.out.trans (HB3.out.mono (by rw [HSE.out 0]; exact HB.out.size))
end Go.Proofs.Ytnilgnnlobiojaa
