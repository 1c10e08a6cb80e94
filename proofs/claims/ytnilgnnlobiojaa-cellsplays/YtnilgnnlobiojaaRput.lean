/- The reference's Put 20. -/
import Derived.Test.YtnilgnnlobiojaaRefp
import Derived.Test.YtnilgnnlobiojaaFork
import Derived.Test.YtnilgnnlobiojaaWithin
import Derived.StillTailTactics
namespace Go.Proofs.Ytnilgnnlobiojaa
open Go.RowKit
/-- What Put leaves of the reference's index. -/
def OutRp (b base n : Nat) (F : Int → Option Cl) (i : Int) (c : Cl) (w : World) (e : Ending) (w' : World) : Prop :=
  e = .returned (.int .i64 (putE F n i c)) ∧ Below base w w' ∧ KeptR w w' ∧ ∃ R', Rx w' b base R' ∧ Rep (putF' F n i c) R'
/-- Three cells of a row of pairs, written. -/
theorem OwnR.put3 {w : World} {base g n cap : Nat} {R : List Pr} (h : OwnR encP 68 3 w base (.slice (some ⟨g, 0, none⟩) n cap) R) (k : Nat) (hk : k < R.length) (z : Pr) :
    OwnR encP 68 3 (((w.setCell ⟨g, k * 3, none⟩ (.int .i64 z.1)).setCell ⟨g, k * 3 + 1, none⟩ (.int .i64 z.2.1)).setCell ⟨g, k * 3 + 2, none⟩ (.int .i64 z.2.2)) base (.slice (some ⟨g, 0, none⟩) n cap) (R.set k z) := by
  have h1 := h.set layP k hk 0 (by omega) (.int .i64 z.1) (z.1, R[k].2) rfl
  have h2 := h1.set layP k (by simpa using hk) 1 (by omega) (.int .i64 z.2.1) (z.1, (z.2.1, R[k].2.2)) (by rw [List.getElem_set_self]; rfl)
  have h3 := h2.set layP k (by simpa using hk) 2 (by omega) (.int .i64 z.2.2) z (by rw [List.getElem_set_self]; rfl)
  rw [List.set_set, List.set_set] at h3
  exact h3
theorem OwnR.put2 {w : World} {base g n cap : Nat} {R : List Pr} (h : OwnR encP 68 3 w base (.slice (some ⟨g, 0, none⟩) n cap) R) (k : Nat) (hk : k < R.length) (c : Cl) :
    OwnR encP 68 3 ((w.setCell ⟨g, k * 3 + 1, none⟩ (.int .i64 c.1)).setCell ⟨g, k * 3 + 2, none⟩ (.int .i64 c.2)) base (.slice (some ⟨g, 0, none⟩) n cap) (R.set k (R[k].1, c)) := by
  have h2 := h.set layP k hk 1 (by omega) (.int .i64 c.1) (R[k].1, (c.1, R[k].2.2)) rfl
  have h3 := h2.set layP k (by simpa using hk) 2 (by omega) (.int .i64 c.2) (R[k].1, c) (by rw [List.getElem_set_self]; rfl)
  rw [List.set_set] at h3
  exact h3
/-- A world in which a pair lies in block g. -/
structure Kp (g : Nat) (i x y : Int) where
  w : World
  p0 : w.cell? ⟨g, 0, none⟩ = some (.int .i64 i)
  p1 : w.cell? ⟨g, 1, none⟩ = some (.int .i64 x)
  p2 : w.cell? ⟨g, 2, none⟩ = some (.int .i64 y)
theorem kp {Z : World} {g : Nat} {i x y : Int} (h : Blk Z g [.int .i64 i, .int .i64 x, .int .i64 y] 68) : ∃ q : Kp g i x y, Z = q.w := ⟨⟨Z, h.cell 0, h.cell 1, h.cell 2⟩, rfl⟩
set_option maxRecDepth 20000 in
set_option maxHeartbeats 8000000 in
theorem rput_any (b base n : Nat) (R : List Pr) (F : Int → Option Cl) (i x y : Int) (w : World) (h : Rx w b base R) (hr : Rep F R) (hn : n = R.length) (hn2 : n ≤ 2000) (hbase : base ≤ w.heap.size) :
    Calls Try.prog 20 #[.pointer (some ⟨b, 0, none⟩), .int .i64 i, C x y] w fun e w' => OutRp b base n F i (x, y) w e w' := by
  obtain ⟨g, hg⟩ : ∃ g, g = w.heap.size := ⟨_, rfl⟩
  obtain ⟨W, hW⟩ : ∃ W, W = w.alloc (.cells #[.int .i64 x, .int .i64 y] 32) := ⟨_, rfl⟩
  have hB : Below w.heap.size w W := by rw [hW]; exact (Below.refl _ _).alloc (Nat.le_refl _) _
  have hG : Blk W g [.int .i64 x, .int .i64 y] 32 := by rw [hW]; exact Blk.new' _ _ _ _ hg
  have HX := hid (h.below hB)
  have HB := hid hB
  have HG := hid hG
  have HR := hid hr
  have HN := hid (fun (_ : Nat) => hn)
  have HBA := hid hbase
  have c0 : W.cell? ⟨g, 0, none⟩ = some (.int .i64 x) := hG.cell 0
  have c1 : W.cell? ⟨g, 1, none⟩ = some (.int .i64 y) := hG.cell 1
  have HFD := hid (find_any b base R i W (h.below hB) (by omega))
  have HN2 := hid hn2
  obtain ⟨Q, hQ⟩ : ∃ Q, Q = OutRp b base n F i (x, y) w := ⟨_, rfl⟩
  have HQ := hid (fun (_ : Nat) => hQ)
  rw [← hQ]
  clear hQ hB hG h hr hn hn2 hbase
  unfold C
  by_cases hm : measC (x, y) = true
  · have hmm := hm
    unfold measC at hmm
    simp only [Bool.and_eq_true, decide_eq_true_eq] at hmm
    obtain ⟨⟨⟨m1, m2⟩, m3⟩, m4⟩ := hmm
    have f1 : (x < -1000) = False := by simp; omega
    have f2 : (1000 < x) = False := by simp; omega
    have f3 : (y < -1000) = False := by simp; omega
    have f4 : (1000 < y) = False := by simp; omega
    have HM := hid hm
    clear hm
    go_enter Try.func20, Try.ntmps20
    go_upto_region 1 with fail
    rw [← hW, ← hg]
    clear hW hg
    go_upto_region 4 with fail
    refine Calls.mono HFD.out ?_
    rintro _ w' ⟨hfd, hw⟩
    replace hw := hw.symm
    subst hw
    rcases hfd with ⟨hno, rfl⟩ | ⟨k, hk, hki, rfl⟩
    · have hF := HR.out.none hno
      have hpe : putE F n i (x, y) = 0 := by
        have h1 := HN2.out
        unfold putE
        rw [if_pos HM.out, hF, if_neg]; simp; omega
      have hpf : putF' F n i (x, y) = insF F i (x, y) := by unfold putF'; rw [if_pos hpe]
      have HPE := hid hpe
      have HPF := hid hpf
      have HNO := hid hno
      obtain ⟨p, n', cap, hl, hb, ho, hbb⟩ := HX.out
      have hnn : n' = n := hl.trans (HN.out 0).symm
      subst hnn
      have b0 : W.cell? ⟨b, 0, none⟩ = some (.slice p n' cap) := hb.cell 0
      have f5 : ((4096 : Int) ≤ (n' : Int)) = False := by have := HN2.out; simp; omega
      have hn6 : (n' : Int) ≤ 2000 := by have := HN2.out; omega
      obtain ⟨gp, hgp⟩ : ∃ gp, gp = W.heap.size := ⟨_, rfl⟩
      obtain ⟨V, hV⟩ : ∃ V, V = W.alloc (.cells #[.int .i64 i, .int .i64 x, .int .i64 y] 68) := ⟨_, rfl⟩
      have hvb : Below W.heap.size W V := by rw [hV]; exact (Below.refl _ _).alloc (Nat.le_refl _) _
      have HGP : Hid (Blk V gp [.int .i64 i, .int .i64 x, .int .i64 y] 68) := by rw [hV]; exact Blk.new' _ _ _ _ hgp
      have HBV := hid (hb.below hvb hb.lt)
      have HOV := hid (ho.below hvb)
      have HWV : Hid (Below base w V) := (HB.out.mono HBA.out).trans (hvb.mono (Nat.le_trans HBA.out HB.out.size))
      have HKV : Hid (KeptR w V) := (KeptR.below HB.out).trans (KeptR.below hvb)
      have HOG : Hid ((Value.slice p n' cap).ownBlock ≠ some gp) := fun e => by have := (ho.block gp e).2; omega
      have HBB := hid hbb
      have HVE := hid (fun (_ : Nat) => hV)
      have HGE := hid (fun (_ : Nat) => hgp)
      have HSZ : Hid (base ≤ V.heap.size) := Nat.le_trans HBA.out HWV.out.size
      clear hF hpe hpf hl hb ho hbb hno hvb hV hgp HX HFD HG HB
      go_upto_region 10 with fail
      rw [← HVE.out 0, ← HGE.out 0]
      clear HVE b0 c0 c1
      have k0 : ∀ q : Kp gp i x y, q.w.cell? ⟨gp, 0, none⟩ = some (.int .i64 i) := fun q => q.p0
      have k1 : ∀ q : Kp gp i x y, q.w.cell? ⟨gp, 1, none⟩ = some (.int .i64 x) := fun q => q.p1
      have k2 : ∀ q : Kp gp i x y, q.w.cell? ⟨gp, 2, none⟩ = some (.int .i64 y) := fun q => q.p2
      refine wp_region_fork (S := fun w' => ∃ q : Kp gp i x y, w' = q.w) [0, 1, 2, 3, 5] 4 6 ((7, true) :: (8, false) :: (9, false) :: (10, true) :: []) rfl (by kernel_rfl) (by kernel_rfl) (by kernel_rfl) (kp (show Blk V.drew gp _ 68 from HGP.out)) ?_
      iterate 5 (refine fork_take rfl (fun K hK => ?_); go_simp; (refine ⟨_, fun _ => rfl, hK _ ?_⟩); clear hK K)
      have b1 : V.cell? ⟨b, 0, none⟩ = some (.slice p n' cap) := HBV.out.cell 0
      obtain ⟨U, hU⟩ : ∃ U, U = (V.alloc (.cells #[.int .i64 i, .int .i64 x, .int .i64 y] 68)).drew := ⟨_, rfl⟩
      have hUB : Below V.heap.size V U := by rw [hU]; exact Below.drewN ((Below.refl _ _).alloc (Nat.le_refl _) _) 1
      have HUG : Hid (RowAt encP 3 U (.slice (some ⟨V.heap.size, 0, none⟩) 1 1) [(i, (x, y))]) := by rw [hU]; exact RowAt.one V _ _ _ rfl
      have HGU := hid (HGP.out.below hUB HGP.out.lt)
      have HBU := hid (HBV.out.below hUB HBV.out.lt)
      have HOU := hid (HOV.out.below hUB)
      have HWU : Hid (Below base w U) := HWV.out.trans (hUB.mono HSZ.out)
      have HKU : Hid (KeptR w U) := HKV.out.trans (KeptR.below hUB)
      have HSU : Hid (base ≤ U.heap.size) := Nat.le_trans HSZ.out hUB.size
      have HGL : Hid (gp < U.heap.size) := HGU.out.lt
      have bU : U.cell? ⟨b, 0, none⟩ = some (.slice p n' cap) := HBU.out.cell 0
      have hNN : R.length + [(i, (x, y))].length = n' + 1 := by rw [← HN.out 0]; rfl
      have hN1 : n' + 1 ≤ 1000000 := by have := HN2.out; omega
      have HNN := hid hNN
      have HN1 := hid hN1
      have HVG : Hid (∃ q : Kp gp i x y, V.drew = q.w) := kp (show Blk V.drew gp _ 68 from HGP.out)
      clear hUB HGP HBV HOV HWV HKV HSZ hNN hN1
      refine fork_both ?A ?B
      case' A =>
        refine plan_turn rfl (fun K hK => ?_)
        go_simp
        refine hK _ _ HVG.out ?_
        clear hK K
        refine plan_turn rfl (fun K hK => ?_)
        go_simp
        rw [← hU]
        clear hU
        refine hK _ _ (kp HGU.out) ?_
        clear hK K
      case' B =>
        refine plan_turn rfl (fun K hK => ?_)
        go_simp
        rw [← hU]
        clear hU
        refine hK _ _ (kp HGU.out) ?_
        clear hK K
        refine plan_turn rfl (fun K hK => ?_)
        go_simp
        refine hK _ _ (kp HGU.out) ?_
        clear hK K
      all_goals
        clear b1 bU HVG
        refine plan_turn rfl (fun K hK => ?_)
        rw [if_pos (by rfl)]
        refine turn_of_list (ops := #[]) rfl ?_
        refine wpL_appendR layP Try.underlying27 info68 rfl (by omega) base (.slice p n' cap) (.slice (some ⟨V.heap.size, 0, none⟩) 1 1) R [(i, (x, y))] (n' + 1) (by simp) HNN.out rfl rfl HOU.out HUG.out HN1.out HSU.out ?_
        intro p2 c2 X ho2 hg2
        refine ⟨rfl, ?_⟩
        have HGX := hid (hg2.blk HGU.out HOG.out)
        have HBX := hid (hg2.blk HBU.out (ownR_blk HOU.out HBU.out (by decide)))
        have HOX := hid ho2
        have HWX : Hid (Below base w X) := HWU.out.trans (hg2.belowR HOU.out HSU.out)
        have HKX : Hid (KeptR w X) := HKU.out.trans (KeptR.gro HOU.out hg2)
        have HOG2 : Hid ((Value.slice p2 (n' + 1) c2).ownBlock ≠ some gp) := fun e => by
          rcases hg2.pl with h1 | h1
          · rw [h1] at e; exact HOG.out e
          · have := h1 gp e; have := HGL.out; omega
        refine hK _ _ (kp HGX.out) ?_
        clear hK K hg2 ho2 HGU HBU HOU HWU HKU HSU HUG HOG
        have b2 : X.cell? ⟨b, 0, none⟩ = some (.slice p n' cap) := HBX.out.cell 0
        have q2 : X.frozen? ⟨b, 0, none⟩ = false := HBX.out.frozen 0
        iterate 2 (refine plan_take rfl (fun K hK => ?_); go_simp; (refine ⟨_, fun _ => rfl, hK _ ?_⟩); clear hK K)
        refine plan_turn rfl (fun K hK => ?_)
        go_simp
        obtain ⟨Y, hY⟩ : ∃ Y, Y = X.setCell ⟨b, 0, none⟩ (.slice p2 (n' + 1) c2) := ⟨_, rfl⟩
        rw [← hY]
        have hnb : gp ≠ b := by
          rintro rfl
          have := HGX.out.inj HBX.out
          cases this
        have HBY : Hid (Blk Y b [.slice p2 (n' + 1) c2] 29) := by rw [hY]; exact HBX.out.set 0 _
        have HGY : Hid (Blk Y gp [.int .i64 i, .int .i64 x, .int .i64 y] 68) := by
          have h1 := HGX.out
          unfold Blk at h1 ⊢
          rw [hY, Below.heap_setCell _ _ _ _ hnb]; exact h1
        have HOY : Hid (OwnR encP 68 3 Y base (.slice p2 (n' + 1) c2) (R ++ [(i, (x, y))])) := by
          refine HOX.out.stay fun k hk => ?_
          rw [hY]
          exact Below.heap_setCell _ _ _ _ fun e => ownR_blk HOX.out HBX.out (by decide) (by have e' : k = b := e; rw [← e']; exact hk)
        have HWY : Hid (Below base w Y) := by rw [hY]; exact HWX.out.setCell HBB.out _
        have HKY : Hid (KeptR w Y) := by rw [hY]; exact HKX.out.trans (KeptR.set HBX.out (Or.inl rfl) _ _)
        refine hK _ _ (kp HGY.out) ?_
        clear hK K hY b2 q2 hnb HBX HGX HOX HWX HKX
        refine plan_done ⟨rfl, ?_⟩
        obtain ⟨_, gr, hp2, hgr, _⟩ := HOY.out.at layP 0 (Nat.succ_pos n')
        subst hp2
        have HNG : Hid (gp ≠ gr) := fun e => HOG2.out (by rw [e]; rfl)
        have HNB : Hid (b ≠ gr) := fun e => ownR_blk HOY.out HBY.out (by decide) (by rw [e]; rfl)
        have hbY : Y.cell? ⟨b, 0, none⟩ = some (.slice (some ⟨gr, 0, none⟩) (n' + 1) c2) := HBY.out.cell 0
        have HHY : Hid (∀ x ∈ R.drop n', i < x.1) := by
          rw [HN.out 0, List.drop_length]; intro x hx; cases hx
        have HOS : Hid (OwnR encP 68 3 Y base (.slice (some ⟨gr, 0, none⟩) (n' + 1) c2) (R.take n' ++ (i, (x, y)) :: R.drop n')) := by
          have h1 := HOY.out
          rw [HN.out 0, List.drop_length, List.take_length, ← HN.out 0]; exact h1
        clear HOY HOG2 hgr
        go_upto_region 12 with fail
        go_wp2_with fail
        go_loopw [7] (fun kv wr => ∃ (k : Nat) (y' : Pr), kv = .int .i64 (k : Int) ∧ k ≤ n' ∧ Hid (Blk wr b [.slice (some ⟨gr, 0, none⟩) (n' + 1) c2] 29) ∧ Hid (Blk wr gp [.int .i64 i, .int .i64 x, .int .i64 y] 68) ∧ Hid (OwnR encP 68 3 wr base (.slice (some ⟨gr, 0, none⟩) (n' + 1) c2) (R.take k ++ y' :: R.drop k)) ∧ Hid (∀ x ∈ R.drop k, i < x.1) ∧ Hid (Below base w wr) ∧ Hid (KeptR w wr)) (fun kv _ => (intOf kv).toNat)
        case atStart => exact ⟨n', (i, (x, y)), by simp, Nat.le_refl _, HBY, HGY, HOS, HHY, HWY, HKY⟩
        case round =>
          clear HBY HGY HOS HHY HWY HKY hbY
          obtain ⟨k, y', rfl, hk, HBT, HGT, HOT, HHI, HWT, HKT⟩ := hrel
          have hnR := HN.out 0
          have cb : wr.cell? ⟨b, 0, none⟩ = some (.slice (some ⟨gr, 0, none⟩) (n' + 1) c2) := HBT.out.cell 0
          have p0 : wr.cell? ⟨gp, 0, none⟩ = some (.int .i64 i) := HGT.out.cell 0
          have p1 : wr.cell? ⟨gp, 1, none⟩ = some (.int .i64 x) := HGT.out.cell 1
          have p2 : wr.cell? ⟨gp, 2, none⟩ = some (.int .i64 y) := HGT.out.cell 2
          rcases Nat.eq_zero_or_pos k with hk0 | hk0
          · have HLO : Hid (∀ x ∈ R.take k, x.1 < i) := by
              rw [hk0, List.take_zero]; intro x hx; cases hx
            have hkz : ((0 : Int) < (k : Int)) = False := by simp; omega
            have hkz' : decide (0 < k) = false := decide_eq_false (by omega)
            obtain ⟨hkT, g2, e2, hgr2, hgl2, hfr, hcell⟩ := HOT.out.at layP k (by omega)
            simp only [Option.some.injEq, Addr.mk.injEq] at e2
            obtain ⟨rfl, -, -⟩ := e2
            obtain ⟨yy, hyy⟩ : ∃ yy, (R.take k ++ y' :: R.drop k)[k] = yy := ⟨_, rfl⟩
            obtain ⟨v0, v1, v2⟩ := yy
            rw [hyy] at hcell
            have r0 : wr.cell? ⟨gr, k * 3, none⟩ = some (.int .i64 v0) := hcell 0 _ rfl
            have q0 : wr.frozen? ⟨gr, k * 3, none⟩ = false := hfr (k * 3)
            have hs1 : OwnR encP 68 3 (wr.setCell ⟨gr, k * 3, none⟩ (.int .i64 i)) base (.slice (some ⟨gr, 0, none⟩) (n' + 1) c2) ((R.take k ++ y' :: R.drop k).set k (i, (v1, v2))) := HOT.out.set layP k hkT 0 (by omega) (.int .i64 i) (i, (v1, v2)) (by rw [hyy]; rfl)
            obtain ⟨hkT1, g3, e3, _, _, hfr1, hcell1⟩ := hs1.at layP k (by omega)
            simp only [Option.some.injEq, Addr.mk.injEq] at e3
            obtain ⟨rfl, -, -⟩ := e3
            rw [List.getElem_set_self] at hcell1
            have r1 : (wr.setCell ⟨gr, k * 3, none⟩ (.int .i64 i)).cell? ⟨gr, k * 3 + 1, none⟩ = some (.int .i64 v1) := hcell1 1 _ rfl
            have q1 := hfr1 (k * 3 + 1)
            have hs2 := hs1.set layP k hkT1 1 (by omega) (.int .i64 x) (i, (x, v2)) (by rw [List.getElem_set_self]; rfl)
            obtain ⟨hkT2, g4, e4, _, _, hfr2, hcell2⟩ := hs2.at layP k (by omega)
            simp only [Option.some.injEq, Addr.mk.injEq] at e4
            obtain ⟨rfl, -, -⟩ := e4
            rw [List.getElem_set_self] at hcell2
            have r2 : ((wr.setCell ⟨gr, k * 3, none⟩ (.int .i64 i)).setCell ⟨gr, k * 3 + 1, none⟩ (.int .i64 x)).cell? ⟨gr, k * 3 + 2, none⟩ = some (.int .i64 v2) := hcell2 2 _ rfl
            have q2 := hfr2 (k * 3 + 2)
            have hop := HOT.out.put3 k hkT (i, (x, y))
            have hT3 : (R.take k ++ y' :: R.drop k).set k (i, (x, y)) = R.take k ++ (i, (x, y)) :: R.drop k := by
              rw [List.set_append_right _ _ (by rw [List.length_take]; omega), List.length_take, show k - min k R.length = 0 by omega, List.set_cons_zero]
            rw [hT3] at hop
            obtain ⟨TT, hTT⟩ : ∃ TT, TT = ((wr.setCell ⟨gr, k * 3, none⟩ (.int .i64 i)).setCell ⟨gr, k * 3 + 1, none⟩ (.int .i64 x)).setCell ⟨gr, k * 3 + 2, none⟩ (.int .i64 y) := ⟨_, rfl⟩
            have hKW : TT.heap.size = wr.heap.size ∧ ∀ m, m ≠ gr → TT.heap[m]? = wr.heap[m]? := by
              rw [hTT]
              exact ⟨by simp, fun m hm => by rw [Below.heap_setCell _ _ _ _ hm, Below.heap_setCell _ _ _ _ hm, Below.heap_setCell _ _ _ _ hm]⟩
            have hop' : OwnR encP 68 3 TT base (.slice (some ⟨gr, 0, none⟩) (n' + 1) c2) (R.take k ++ (i, (x, y)) :: R.drop k) := by rw [hTT]; exact hop
            have hWT : Below base w TT := by rw [hTT]; exact ((HWT.out.setCell hgr2 _).setCell hgr2 _).setCell hgr2 _
            have hKT : KeptR w TT := HKT.out.trans fun m o hm h1 h2 => hKW.2 m (by
              rintro rfl
              obtain ⟨_, ⟨e, _⟩ | ⟨g', cap', cur, e, _, hh, _⟩⟩ := HOT.out
              · cases e
              · simp only [Value.slice.injEq, Option.some.injEq, Addr.mk.injEq] at e
                obtain ⟨⟨rfl, -, -⟩, -, -⟩ := e
                rw [hh] at hm
                cases hm
                exact h2 _ _ rfl)
            have hbT : Blk TT b [.slice (some ⟨gr, 0, none⟩) (n' + 1) c2] 29 := by
              have h1 := HBT.out
              unfold Blk at h1 ⊢
              rw [hKW.2 b HNB.out]; exact h1
            have hgT : Blk TT gp [.int .i64 i, .int .i64 x, .int .i64 y] 68 := by
              have h1 := HGT.out
              unfold Blk at h1 ⊢
              rw [hKW.2 gp HNG.out]; exact h1
            have HOP := hid hop'
            have HWN := hid hWT
            have HKN := hid hKT
            have HBN := hid hbT
            have HGN := hid hgT
            have HTT := hid (fun (_ : Nat) => hTT)
            clear hkT hfr hcell hyy hs1 hkT1 hfr1 hcell1 hs2 hkT2 hfr2 hcell2 hop hT3 hTT hKW hop' hWT hKT hbT hgT hgr2 hgl2 HBT HGT HOT HWT HKT
            clear hk0
            have hki : (k : Int) < (n' : Int) + 1 := by omega
            clear hnR
            go_upto_region 15 with fail
            go_still_tail 7, (by kernel_rfl)
            go_wp2
            rw [← HTT.out 0]
            rw [HQ.out 0]
            refine ⟨by rw [HPE.out]; rfl, Below.drewN HWN.out 1, HKN.out, R.take k ++ (i, (x, y)) :: R.drop k, ⟨_, n' + 1, c2, ?_, HBN.out, HOP.out, HBB.out⟩, ?_⟩
            · rw [List.length_append, List.length_cons, List.length_take, List.length_drop]
              have := HN.out 0
              omega
            · rw [HPF.out]
              exact HR.out.ins HLO.out HHI.out (x, y)
          · have hkz : (0 : Int) < (k : Int) := by omega
            have hkz' : decide (0 < k) = true := decide_eq_true hk0
            obtain ⟨j, hj⟩ : ∃ j, j = k - 1 := ⟨_, rfl⟩
            have hkw : IntKind.i64.wrap ((k : Int) - 1) = (j : Int) := by rw [IntKind.wrap_i64]; omega
            have hjR : j < R.length := by omega
            have hjn : j < n' + 1 := by omega
            obtain ⟨hjT, g5, e5, _, _, _, hcj⟩ := HOT.out.at layP j hjn
            simp only [Option.some.injEq, Addr.mk.injEq] at e5
            obtain ⟨rfl, -, -⟩ := e5
            obtain ⟨zz, hzz⟩ : ∃ zz, R[j] = zz := ⟨_, rfl⟩
            obtain ⟨z0, z1, z2⟩ := zz
            have hTj : (R.take k ++ y' :: R.drop k)[j] = (z0, (z1, z2)) := by
              rw [List.getElem_append_left (by rw [List.length_take]; omega), List.getElem_take, hzz]
            rw [hTj] at hcj
            have t0 : wr.cell? ⟨gr, j * 3, none⟩ = some (.int .i64 z0) := hcj 0 _ rfl
            have t1 : wr.cell? ⟨gr, j * 3 + 1, none⟩ = some (.int .i64 z1) := hcj 1 _ rfl
            have t2 : wr.cell? ⟨gr, j * 3 + 2, none⟩ = some (.int .i64 z2) := hcj 2 _ rfl
            have htk : R.take k = R.take j ++ [(z0, (z1, z2))] := by
              rw [show k = j + 1 by omega, List.take_succ_eq_append_getElem hjR, hzz]
            have hdj : R.drop j = (z0, (z1, z2)) :: R.drop k := by
              rw [List.drop_eq_getElem_cons hjR, hzz, show j + 1 = k by omega]
            have hne : z0 ≠ i := by
              have := HNO.out R[j] (List.getElem_mem hjR)
              rw [hzz] at this; exact this
            have hord : ∀ x ∈ R.take j, x.1 < z0 := by
              have h1 := HR.out.1
              rw [← List.take_append_drop j R, hdj, List.pairwise_append] at h1
              exact fun x hx => h1.2.2 x hx _ (List.mem_cons_self ..)
            have HTK := hid htk
            have HDJ := hid hdj
            have hjk : k = j + 1 := by omega
            have HJK := hid hjk
            by_cases hgo : i < z0
            · have HHJ : Hid (∀ x ∈ R.drop j, i < x.1) := by
                rw [hdj]; intro x hx
                rcases List.mem_cons.1 hx with rfl | hx
                · exact hgo
                · exact HHI.out x hx
              clear hTj hzz hcj hne hord htk hdj hjT hj hk0
              obtain ⟨hkT, g2, e2, hgr2, hgl2, hfr, hcell⟩ := HOT.out.at layP k (by omega)
              simp only [Option.some.injEq, Addr.mk.injEq] at e2
              obtain ⟨rfl, -, -⟩ := e2
              obtain ⟨yy, hyy⟩ : ∃ yy, (R.take k ++ y' :: R.drop k)[k] = yy := ⟨_, rfl⟩
              obtain ⟨v0, v1, v2⟩ := yy
              rw [hyy] at hcell
              have r0 : wr.cell? ⟨gr, k * 3, none⟩ = some (.int .i64 v0) := hcell 0 _ rfl
              have q0 : wr.frozen? ⟨gr, k * 3, none⟩ = false := hfr (k * 3)
              have hs1 : OwnR encP 68 3 (wr.setCell ⟨gr, k * 3, none⟩ (.int .i64 z0)) base (.slice (some ⟨gr, 0, none⟩) (n' + 1) c2) ((R.take k ++ y' :: R.drop k).set k (z0, (v1, v2))) := HOT.out.set layP k hkT 0 (by omega) (.int .i64 z0) (z0, (v1, v2)) (by rw [hyy]; rfl)
              obtain ⟨hkT1, g3, e3, _, _, hfr1, hcell1⟩ := hs1.at layP k (by omega)
              simp only [Option.some.injEq, Addr.mk.injEq] at e3
              obtain ⟨rfl, -, -⟩ := e3
              rw [List.getElem_set_self] at hcell1
              have r1 : (wr.setCell ⟨gr, k * 3, none⟩ (.int .i64 z0)).cell? ⟨gr, k * 3 + 1, none⟩ = some (.int .i64 v1) := hcell1 1 _ rfl
              have q1 := hfr1 (k * 3 + 1)
              have hs2 := hs1.set layP k hkT1 1 (by omega) (.int .i64 z1) (z0, (z1, v2)) (by rw [List.getElem_set_self]; rfl)
              obtain ⟨hkT2, g4, e4, _, _, hfr2, hcell2⟩ := hs2.at layP k (by omega)
              simp only [Option.some.injEq, Addr.mk.injEq] at e4
              obtain ⟨rfl, -, -⟩ := e4
              rw [List.getElem_set_self] at hcell2
              have r2 : ((wr.setCell ⟨gr, k * 3, none⟩ (.int .i64 z0)).setCell ⟨gr, k * 3 + 1, none⟩ (.int .i64 z1)).cell? ⟨gr, k * 3 + 2, none⟩ = some (.int .i64 v2) := hcell2 2 _ rfl
              have q2 := hfr2 (k * 3 + 2)
              have hop := HOT.out.put3 k hkT (z0, (z1, z2))
              have hT3 : (R.take k ++ y' :: R.drop k).set k (z0, (z1, z2)) = R.take k ++ (z0, (z1, z2)) :: R.drop k := by
                rw [List.set_append_right _ _ (by rw [List.length_take]; omega), List.length_take, show k - min k R.length = 0 by omega, List.set_cons_zero]
              rw [hT3] at hop
              obtain ⟨TT, hTT⟩ : ∃ TT, TT = ((wr.setCell ⟨gr, k * 3, none⟩ (.int .i64 z0)).setCell ⟨gr, k * 3 + 1, none⟩ (.int .i64 z1)).setCell ⟨gr, k * 3 + 2, none⟩ (.int .i64 z2) := ⟨_, rfl⟩
              have hKW : TT.heap.size = wr.heap.size ∧ ∀ m, m ≠ gr → TT.heap[m]? = wr.heap[m]? := by
                rw [hTT]
                exact ⟨by simp, fun m hm => by rw [Below.heap_setCell _ _ _ _ hm, Below.heap_setCell _ _ _ _ hm, Below.heap_setCell _ _ _ _ hm]⟩
              have hop' : OwnR encP 68 3 TT base (.slice (some ⟨gr, 0, none⟩) (n' + 1) c2) (R.take k ++ (z0, (z1, z2)) :: R.drop k) := by rw [hTT]; exact hop
              have hWT : Below base w TT := by rw [hTT]; exact ((HWT.out.setCell hgr2 _).setCell hgr2 _).setCell hgr2 _
              have hKT : KeptR w TT := HKT.out.trans fun m o hm h1 h2 => hKW.2 m (by
                rintro rfl
                obtain ⟨_, ⟨e, _⟩ | ⟨g', cap', cur, e, _, hh, _⟩⟩ := HOT.out
                · cases e
                · simp only [Value.slice.injEq, Option.some.injEq, Addr.mk.injEq] at e
                  obtain ⟨⟨rfl, -, -⟩, -, -⟩ := e
                  rw [hh] at hm
                  cases hm
                  exact h2 _ _ rfl)
              have hbT : Blk TT b [.slice (some ⟨gr, 0, none⟩) (n' + 1) c2] 29 := by
                have h1 := HBT.out
                unfold Blk at h1 ⊢
                rw [hKW.2 b HNB.out]; exact h1
              have hgT : Blk TT gp [.int .i64 i, .int .i64 x, .int .i64 y] 68 := by
                have h1 := HGT.out
                unfold Blk at h1 ⊢
                rw [hKW.2 gp HNG.out]; exact h1
              have HOP := hid hop'
              have HWN := hid hWT
              have HKN := hid hKT
              have HBN := hid hbT
              have HGN := hid hgT
              have HTT := hid (fun (_ : Nat) => hTT)
              clear hkT hfr hcell hyy hs1 hkT1 hfr1 hcell1 hs2 hkT2 hfr2 hcell2 hop hT3 hTT hKW hop' hWT hKT hbT hgT hgr2 hgl2 HBT HGT HOT HWT HKT
              have hki : (k : Int) < (n' : Int) + 1 := by omega
              have hji : (j : Int) < (n' : Int) + 1 := by omega
              clear hjk hnR
              go_upto_region 13 with fail
              go_still_tail 14, (by kernel_rfl)
              go_wp2
              rw [← HTT.out 0]
              go_roundw
              case rel =>
                refine ⟨j, (z0, (z1, z2)), rfl, by omega, HBN, HGN, ?_, HHJ, Below.drewN HWN.out 1, HKN⟩
                have h1 := HOP.out
                rw [HTK.out, List.append_assoc] at h1
                rw [HDJ.out]; exact h1
              case measure => simp [intOf]; have := HJK.out; omega
            · have hgf : (i < z0) = False := by simp; omega
              have HLO : Hid (∀ x ∈ R.take k, x.1 < i) := by
                rw [htk]; intro x hx
                rcases List.mem_append.1 hx with hx | hx
                · have := hord x hx; omega
                · rw [List.mem_singleton] at hx
                  subst hx; simp only; omega
              clear hTj hzz hcj hne hord htk hdj hjT hj hk0 hgo
              obtain ⟨hkT, g2, e2, hgr2, hgl2, hfr, hcell⟩ := HOT.out.at layP k (by omega)
              simp only [Option.some.injEq, Addr.mk.injEq] at e2
              obtain ⟨rfl, -, -⟩ := e2
              obtain ⟨yy, hyy⟩ : ∃ yy, (R.take k ++ y' :: R.drop k)[k] = yy := ⟨_, rfl⟩
              obtain ⟨v0, v1, v2⟩ := yy
              rw [hyy] at hcell
              have r0 : wr.cell? ⟨gr, k * 3, none⟩ = some (.int .i64 v0) := hcell 0 _ rfl
              have q0 : wr.frozen? ⟨gr, k * 3, none⟩ = false := hfr (k * 3)
              have hs1 : OwnR encP 68 3 (wr.setCell ⟨gr, k * 3, none⟩ (.int .i64 i)) base (.slice (some ⟨gr, 0, none⟩) (n' + 1) c2) ((R.take k ++ y' :: R.drop k).set k (i, (v1, v2))) := HOT.out.set layP k hkT 0 (by omega) (.int .i64 i) (i, (v1, v2)) (by rw [hyy]; rfl)
              obtain ⟨hkT1, g3, e3, _, _, hfr1, hcell1⟩ := hs1.at layP k (by omega)
              simp only [Option.some.injEq, Addr.mk.injEq] at e3
              obtain ⟨rfl, -, -⟩ := e3
              rw [List.getElem_set_self] at hcell1
              have r1 : (wr.setCell ⟨gr, k * 3, none⟩ (.int .i64 i)).cell? ⟨gr, k * 3 + 1, none⟩ = some (.int .i64 v1) := hcell1 1 _ rfl
              have q1 := hfr1 (k * 3 + 1)
              have hs2 := hs1.set layP k hkT1 1 (by omega) (.int .i64 x) (i, (x, v2)) (by rw [List.getElem_set_self]; rfl)
              obtain ⟨hkT2, g4, e4, _, _, hfr2, hcell2⟩ := hs2.at layP k (by omega)
              simp only [Option.some.injEq, Addr.mk.injEq] at e4
              obtain ⟨rfl, -, -⟩ := e4
              rw [List.getElem_set_self] at hcell2
              have r2 : ((wr.setCell ⟨gr, k * 3, none⟩ (.int .i64 i)).setCell ⟨gr, k * 3 + 1, none⟩ (.int .i64 x)).cell? ⟨gr, k * 3 + 2, none⟩ = some (.int .i64 v2) := hcell2 2 _ rfl
              have q2 := hfr2 (k * 3 + 2)
              have hop := HOT.out.put3 k hkT (i, (x, y))
              have hT3 : (R.take k ++ y' :: R.drop k).set k (i, (x, y)) = R.take k ++ (i, (x, y)) :: R.drop k := by
                rw [List.set_append_right _ _ (by rw [List.length_take]; omega), List.length_take, show k - min k R.length = 0 by omega, List.set_cons_zero]
              rw [hT3] at hop
              obtain ⟨TT, hTT⟩ : ∃ TT, TT = ((wr.setCell ⟨gr, k * 3, none⟩ (.int .i64 i)).setCell ⟨gr, k * 3 + 1, none⟩ (.int .i64 x)).setCell ⟨gr, k * 3 + 2, none⟩ (.int .i64 y) := ⟨_, rfl⟩
              have hKW : TT.heap.size = wr.heap.size ∧ ∀ m, m ≠ gr → TT.heap[m]? = wr.heap[m]? := by
                rw [hTT]
                exact ⟨by simp, fun m hm => by rw [Below.heap_setCell _ _ _ _ hm, Below.heap_setCell _ _ _ _ hm, Below.heap_setCell _ _ _ _ hm]⟩
              have hop' : OwnR encP 68 3 TT base (.slice (some ⟨gr, 0, none⟩) (n' + 1) c2) (R.take k ++ (i, (x, y)) :: R.drop k) := by rw [hTT]; exact hop
              have hWT : Below base w TT := by rw [hTT]; exact ((HWT.out.setCell hgr2 _).setCell hgr2 _).setCell hgr2 _
              have hKT : KeptR w TT := HKT.out.trans fun m o hm h1 h2 => hKW.2 m (by
                rintro rfl
                obtain ⟨_, ⟨e, _⟩ | ⟨g', cap', cur, e, _, hh, _⟩⟩ := HOT.out
                · cases e
                · simp only [Value.slice.injEq, Option.some.injEq, Addr.mk.injEq] at e
                  obtain ⟨⟨rfl, -, -⟩, -, -⟩ := e
                  rw [hh] at hm
                  cases hm
                  exact h2 _ _ rfl)
              have hbT : Blk TT b [.slice (some ⟨gr, 0, none⟩) (n' + 1) c2] 29 := by
                have h1 := HBT.out
                unfold Blk at h1 ⊢
                rw [hKW.2 b HNB.out]; exact h1
              have hgT : Blk TT gp [.int .i64 i, .int .i64 x, .int .i64 y] 68 := by
                have h1 := HGT.out
                unfold Blk at h1 ⊢
                rw [hKW.2 gp HNG.out]; exact h1
              have HOP := hid hop'
              have HWN := hid hWT
              have HKN := hid hKT
              have HBN := hid hbT
              have HGN := hid hgT
              have HTT := hid (fun (_ : Nat) => hTT)
              clear hkT hfr hcell hyy hs1 hkT1 hfr1 hcell1 hs2 hkT2 hfr2 hcell2 hop hT3 hTT hKW hop' hWT hKT hbT hgT hgr2 hgl2 HBT HGT HOT HWT HKT
              have hji : (j : Int) < (n' : Int) + 1 := by omega
              clear hjk
              have hki : (k : Int) < (n' : Int) + 1 := by omega
              clear hnR
              go_upto_region 15 with fail
              go_still_tail 7, (by kernel_rfl)
              go_wp2
              rw [← HTT.out 0]
              rw [HQ.out 0]
              refine ⟨by rw [HPE.out]; rfl, Below.drewN HWN.out 1, HKN.out, R.take k ++ (i, (x, y)) :: R.drop k, ⟨_, n' + 1, c2, ?_, HBN.out, HOP.out, HBB.out⟩, ?_⟩
              · rw [List.length_append, List.length_cons, List.length_take, List.length_drop]
                have := HN.out 0
                omega
              · rw [HPF.out]
                exact HR.out.ins HLO.out HHI.out (x, y)
    · have hpe : putE F n i (x, y) = 0 := by
        have h1 := HR.out.some hk
        rw [hki] at h1
        unfold putE
        rw [if_pos HM.out, h1]; rfl
      have hpf : putF' F n i (x, y) = insF F i (x, y) := by unfold putF'; rw [if_pos hpe]
      obtain ⟨p, n', cap, hl, hb, ho, hbb⟩ := HX.out
      have hnn : n' = n := hl.trans (HN.out 0).symm
      subst hnn
      have hkn : k < n' := by have := HN.out 0; omega
      obtain ⟨_, gr, rfl, hgr, hglt, hfr, hcell⟩ := ho.at layP k hkn
      have b0 : W.cell? ⟨b, 0, none⟩ = some (.slice (some ⟨gr, 0, none⟩) n' cap) := hb.cell 0
      have r1 : W.cell? ⟨gr, k * 3 + 1, none⟩ = some (.int .i64 R[k].2.1) := hcell 1 _ rfl
      have ho1 := ho.set layP k hk 1 (by omega) (.int .i64 x) (R[k].1, (x, R[k].2.2)) rfl
      obtain ⟨hk', g2, e2, _, _, hfr2, hcell2⟩ := ho1.at layP k hkn
      simp only [Option.some.injEq, Addr.mk.injEq] at e2
      obtain ⟨rfl, -, -⟩ := e2
      have r2 : (W.setCell ⟨gr, k * 3 + 1, none⟩ (.int .i64 x)).cell? ⟨gr, k * 3 + 2, none⟩ = some (.int .i64 R[k].2.2) := hcell2 2 _ (by rw [List.getElem_set_self]; rfl)
      have q1 := hfr (k * 3 + 1)
      have q2 := hfr2 (k * 3 + 2)
      have hop := ho.put2 k hk (x, y)
      rw [hki] at hop
      have hne : b ≠ gr := by
        rintro rfl
        exact ownR_blk ho hb (by decide) rfl
      obtain ⟨cs, hgc⟩ : ∃ cs, W.heap[gr]? = some (Obj.cells cs 68 (0, 0)) := by
        obtain ⟨_, ⟨e, _⟩ | ⟨g', cap', cur, e, _, hh, _⟩⟩ := ho
        · cases e
        · simp only [Value.slice.injEq, Option.some.injEq, Addr.mk.injEq] at e
          obtain ⟨⟨rfl, -, -⟩, -, -⟩ := e
          exact ⟨cur, hh⟩
      have hk1 : KeptR W ((W.setCell ⟨gr, k * 3 + 1, none⟩ (.int .i64 x)).setCell ⟨gr, k * 3 + 2, none⟩ (.int .i64 y)) := by
        refine (KeptR.set hgc (Or.inr rfl) _ _).trans (KeptR.set (cs := cs.setIfInBounds (k * 3 + 1) (.int .i64 x)) (t := 68) (z := (0, 0)) ?_ (Or.inr rfl) _ _)
        simp [World.setCell, Array.getElem?_modify, hgc]
      have hb2 : Blk ((W.setCell ⟨gr, k * 3 + 1, none⟩ (.int .i64 x)).setCell ⟨gr, k * 3 + 2, none⟩ (.int .i64 y)) b [.slice (some ⟨gr, 0, none⟩) n' cap] 29 := by
        unfold Blk at hb ⊢
        rw [Below.heap_setCell _ _ _ _ hne, Below.heap_setCell _ _ _ _ hne]
        exact hb
      have hbe : Below base w ((W.setCell ⟨gr, k * 3 + 1, none⟩ (.int .i64 x)).setCell ⟨gr, k * 3 + 2, none⟩ (.int .i64 y)) := ((HB.out.mono HBA.out).setCell hgr _).setCell hgr _
      have hfin : OutRp b base n' F i (x, y) w (.returned (.int .i64 0)) (((W.setCell ⟨gr, k * 3 + 1, none⟩ (.int .i64 x)).setCell ⟨gr, k * 3 + 2, none⟩ (.int .i64 y)).drew) := by
        refine ⟨by rw [hpe], Below.drewN hbe 1, (KeptR.below HB.out).trans hk1, R.set k (i, (x, y)), ⟨_, n', cap, by rw [List.length_set]; exact hl, hb2, hop, hbb⟩, ?_⟩
        rw [hpf]
        exact HR.out.set hk hki (x, y)
      have HFIN := hid hfin
      clear hpe hpf hl hb ho hbb hcell ho1 hcell2 hop hgc hk1 hb2 hbe hfin hfr hfr2 hk' hne hki
      go_upto_region 5 with fail
      go_still_tail 8, (by kernel_rfl)
      go_wp2
      rw [HQ.out 0]
      exact HFIN.out
  · have hm' : measC (x, y) = false := by simpa using hm
    have hpe : putE F n i (x, y) = 2 := by unfold putE; rw [if_neg hm]
    have hfin : OutRp b base n F i (x, y) w (.returned (.int .i64 2)) W := by
      refine ⟨by rw [hpe], HB.out.mono HBA.out, KeptR.below HB.out, R, HX.out, ?_⟩
      unfold putF'
      rw [hpe, if_neg (by decide)]
      exact HR.out
    have HFIN := hid hfin
    unfold measC at hm'
    have hmm : ¬ ((((-1000 ≤ x) ∧ x ≤ 1000) ∧ -1000 ≤ y) ∧ y ≤ 1000) := by
      intro h
      simp only [h.1.1.1, h.1.1.2, h.1.2, h.2, decide_true, Bool.and_self] at hm'
      cases hm'
    clear hm hm' hpe hfin HX HR HN HFD HN2 HBA HB
    by_cases k1 : x < -1000
    · clear hmm
      go_enter Try.func20, Try.ntmps20
      go_upto_region 1 with fail
      rw [← hW, ← hg]
      clear hW hg
      go_wp2
      rw [HQ.out 0]
      exact HFIN.out
    · have f1 : (x < -1000) = False := by simp; omega
      by_cases k2 : 1000 < x
      · clear hmm k1
        go_enter Try.func20, Try.ntmps20
        go_upto_region 1 with fail
        rw [← hW, ← hg]
        clear hW hg
        go_wp2
        rw [HQ.out 0]
        exact HFIN.out
      · have f2 : (1000 < x) = False := by simp; omega
        by_cases k3 : y < -1000
        · clear hmm k1 k2
          go_enter Try.func20, Try.ntmps20
          go_upto_region 1 with fail
          rw [← hW, ← hg]
          clear hW hg
          go_wp2
          rw [HQ.out 0]
          exact HFIN.out
        · have f3 : (y < -1000) = False := by simp; omega
          have k4 : 1000 < y := by omega
          clear hmm k1 k2 k3
          go_enter Try.func20, Try.ntmps20
          go_upto_region 1 with fail
          rw [← hW, ← hg]
          clear hW hg
          go_wp2
          rw [HQ.out 0]
          exact HFIN.out
end Go.Proofs.Ytnilgnnlobiojaa
