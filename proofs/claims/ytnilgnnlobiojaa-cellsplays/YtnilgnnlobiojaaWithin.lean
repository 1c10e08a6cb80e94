/- within 30. -/
import Derived.Test.YtnilgnnlobiojaaGot
namespace Go.Proofs.Ytnilgnnlobiojaa
open Go.RowKit
/-- A row's block is neither an iterator nor a block of another type. -/
theorem ownR_iter {α : Type} {enc : α → List Value} {T : TypeId} {k : Nat} {w : World} {base m r : Nat} {v : Value} {xs : List α} {f : Cl → Option Value} {left : Cl → Bool} (h : OwnR enc T k w base v xs) (hi : FIter w m r f left) : v.ownBlock ≠ some r ∧ v.ownBlock ≠ some m := by
  obtain ⟨es, ck, l, since, seen, c0, h1, _, _, _, h5, _⟩ := hi
  obtain ⟨_, ⟨rfl, _⟩ | ⟨g, cap, cur, rfl, hg, hh, _⟩⟩ := h
  · simp [Value.ownBlock]
  · simp only [Value.ownBlock]
    refine ⟨fun e => ?_, fun e => ?_⟩
    · cases e; rw [h5] at hh; cases hh
    · cases e; rw [h1] at hh; cases hh
theorem ownR_blk {α : Type} {enc : α → List Value} {T : TypeId} {k : Nat} {w : World} {base b : Nat} {v : Value} {xs : List α} {l : List Value} {t : TypeId} (h : OwnR enc T k w base v xs) (hb : Blk w b l t) (ht : t ≠ T) : v.ownBlock ≠ some b := by
  obtain ⟨_, ⟨rfl, _⟩ | ⟨g, cap, cur, rfl, hg, hh, _⟩⟩ := h
  · simp [Value.ownBlock]
  · simp only [Value.ownBlock]
    intro e
    cases e
    unfold Blk at hb
    rw [hb] at hh
    cases hh
    exact ht rfl
/-- What within answers: a row of its own with the near ones. -/
def OutW (w : World) (F : Int → Option Cl) (x y r : Int) (n : Nat) (e : Ending) (w' : World) : Prop :=
  ∃ (l : List Fd) (p : Option Addr) (cap : Nat), e = .returned (.slice p l.length cap) ∧ OwnR encFd 64 2 w' w.heap.size (.slice p l.length cap) l ∧ l.Nodup ∧ (∀ q, q ∈ l ↔ Near F x y r q) ∧ l.length ≤ n ∧ Below w.heap.size w w'
theorem within_none (b n : Nat) (F : Int → Option Cl) (x y r : Int) (w : World) (h : Blk w b [.map none, .map none] 55) (hF : ∀ i, F i = none) :
    Calls Try.prog 30 #[.pointer (some ⟨b, 0, none⟩), C x y, .int .i64 r] w fun e w' => OutW w F x y r n e w' := by
  obtain ⟨g, hg⟩ : ∃ g, g = w.heap.size := ⟨_, rfl⟩
  obtain ⟨W, hW⟩ : ∃ W, W = w.alloc (.cells #[.int .i64 x, .int .i64 y] 32) := ⟨_, rfl⟩
  have hB : Below w.heap.size w W := by rw [hW]; exact (Below.refl _ _).alloc (Nat.le_refl _) _
  have hb := h.below hB h.lt
  have c0 : W.cell? ⟨b, 0, none⟩ = some (.map none) := hb.cell 0
  have HB := hid hB
  have HF := hid hF
  clear hB hb h hF
  unfold C
  go_enter Try.func30, Try.ntmps30
  go_upto_region 4 with fail
  rw [← hW]
  rw [← hg]
  clear hW hg
  obtain ⟨R, hR⟩ : ∃ R, R = W.heap.size := ⟨_, rfl⟩
  obtain ⟨V, hV⟩ : ∃ V, V = W.alloc (.mapIter none 0 #[] 0) := ⟨_, rfl⟩
  have HN : Hid (NIter V R) := by rw [hV, hR]; exact heap_alloc_last _ _
  have HBV : Hid (Below w.heap.size w V) := by rw [hV]; exact HB.out.alloc HB.out.size _
  go_upto_region 5 with (at_range; (with_reducible refine wpL_rangeN ?_ ?_); (rfl))
  go_frame
  rw [← hV, ← hR]
  clear hV hR
  refine wp_loop_rounds 1 ?_
  rw [rounds_succ]
  go_wp2_with (at_next; (with_reducible refine wpL_nextN R ?_ HN.out ?_); (rfl))
  go_ret
  refine ⟨[], none, 0, rfl, OwnR.nil _ _ _ _ _, List.nodup_nil, fun q => ⟨fun h => absurd h List.not_mem_nil, fun ⟨c, h1, _⟩ => ?_⟩, Nat.zero_le _, HBV.out⟩
  rw [HF.out] at h1; cases h1
set_option maxRecDepth 20000 in
set_option maxHeartbeats 4000000 in
theorem within_some (b base n ma mw : Nat) (fa : Cl → Option Value) (A : Cl → List Int) (F : Int → Option Cl) (x y r : Int) (w : World) (h : Im w b base ma mw fa A F n) (hok : Ok A F n) (hn : n ≤ 4096) :
    Calls Try.prog 30 #[.pointer (some ⟨b, 0, none⟩), C x y, .int .i64 r] w fun e w' => OutW w F x y r n e w' := by
  obtain ⟨g, hg⟩ : ∃ g, g = w.heap.size := ⟨_, rfl⟩
  obtain ⟨W, hW⟩ : ∃ W, W = w.alloc (.cells #[.int .i64 x, .int .i64 y] 32) := ⟨_, rfl⟩
  have hB : Below g w W := by rw [hW, hg]; exact (Below.refl _ _).alloc (Nat.le_refl _) _
  have hG : Blk W g [.int .i64 x, .int .i64 y] 32 := by rw [hW]; exact Blk.new' _ _ _ _ hg
  have hb := h.blk.below hB (by rw [hg]; exact h.blk.lt)
  have hfm := h.fm.below hB (by rw [hg]; exact h.fm.lt)
  have hma : ma < g := by rw [hg]; exact h.fm.lt
  have c0 : W.cell? ⟨b, 0, none⟩ = some (.map (some ma)) := hb.cell 0
  have hrow : ∀ c v, fa c = some v → ∃ p cap, v = .slice p (A c).length cap ∧ OwnI w base v (A c) := fun c v hv => by
    have hne : A c ≠ [] := fun e => by rw [h.off c e] at hv; cases hv
    obtain ⟨u, h1, h2⟩ := h.on c hne
    rw [hv] at h1
    cases h1
    obtain ⟨p, cap, hf⟩ := h2.form
    exact ⟨p, cap, hf, h2⟩
  have hst : ∀ i c, F i = some c → (fa c).isSome = true := fun i c hi => by
    have h1 := (hok.mem c i).2 hi
    obtain ⟨u, h2, _⟩ := h.on c (List.ne_nil_of_mem h1)
    rw [h2]; rfl
  have HROW := hid hrow
  have HST := hid (Got.start (x := x) (y := y) (r := r) (left := fun c => (fa c).isSome) hst)
  have HOK := hid hok
  have HNN := hid hn
  have HB := hid hB
  have HG := hid hG
  have HFM := hid hfm
  have HMA := hid hma
  have HGE := hid (fun (_ : Nat) => hg)
  have HDI := hid (dist_any x y)
  clear hB hb hfm hma hrow hst hok hn hG h
  obtain ⟨Q, hQ⟩ : ∃ Q, Q = OutW w F x y r n := ⟨_, rfl⟩
  have HQ := hid (fun (_ : Nat) => hQ)
  rw [← hQ]
  clear hQ
  unfold C at *
  go_enter Try.func30, Try.ntmps30
  go_upto_region 4 with fail
  rw [← hW]
  rw [← hg]
  clear hW hg
  go_upto_region 5 with (at_range; (with_reducible refine wpL_range 40 Try.underlying52 ma fa ?_ HFM.out ?_); (rfl); (intro w3 hi3 hb3 hs3))
  go_frame
  obtain ⟨R, hR⟩ : ∃ R, R = W.heap.size := ⟨_, rfl⟩
  rw [← hR] at hi3 hb3 ⊢
  have hGR : g < R := by rw [hR]; exact HG.out.lt
  have HI3 := hid hi3
  have HB3 : Hid (Below g w w3) := HB.out.trans (hb3.mono (by omega))
  have HG3 : Hid (Blk w3 g [.int .i64 x, .int .i64 y] 32) := HG.out.below hb3 hGR
  have HO3 : Hid (OwnR encFd 64 2 w3 g (.slice none 0 0) []) := OwnR.nil _ _ _ _ _
  have HGR := hid hGR
  clear hi3 hb3 hs3 hR hGR HB HG HFM c0
  go_loopw [7] (fun sv wr => ∃ (left : Cl → Bool) (l : List Fd) (m : Nat) (ps : Option Addr) (cs : Nat), sv = .slice ps m cs ∧ Hid (m = l.length) ∧ Hid (Below g w wr) ∧ Hid (FIter wr ma R fa left) ∧ Hid (Blk wr g [.int .i64 x, .int .i64 y] 32) ∧ Hid (OwnR encFd 64 2 wr g (.slice ps m cs) l) ∧ Hid (Got F x y r left l)) (fun _ wr => wr.rangeLeft ma R)
  case atStart => exact ⟨_, [], 0, none, 0, rfl, rfl, HB3, HI3, HG3, HO3, HST⟩
  case round =>
    clear HB3 HI3 HG3 HO3 HST
    obtain ⟨left, l, m, ps, cs, rfl, HM, HB, HI, HG, HO, HGT⟩ := hrel
    go_wp2_with (at_next; (with_reducible refine wpL_next ma R fa left ?_ HI.out ?_ ?_); (rfl))
    · intro hl
      go_wp2
      rw [HQ.out 0]
      obtain ⟨h1, h2⟩ := HGT.out.done hl
      have h3 := HGT.out.len HOK.out
      have h4 := HM.out
      subst h4
      rw [HGE.out 0] at HB HO
      exact ⟨l, ps, cs, rfl, HO.out, h1, h2, h3, HB.out⟩
    · intro x1 y1 v w6 hlx hsx hi6 hm6 ht6 hen
      obtain ⟨vp, vc, hvf, hov⟩ := HROW.out _ _ hsx
      obtain ⟨N, hN⟩ : ∃ N, N = (A (x1, y1)).length := ⟨_, rfl⟩
      rw [← hN] at hvf
      subst hvf
      have hlt := HI.out.lt
      have hge := HGE.out 0
      have hgr := HGR.out
      obtain ⟨V, hV⟩ : ∃ V, V = w6.alloc (.cells #[Value.int .i64 x1, .int .i64 y1] 32) := ⟨_, rfl⟩
      obtain ⟨s, hs⟩ : ∃ s, s = w6.heap.size := ⟨_, rfl⟩
      have hVB : Below w6.heap.size w6 V := by rw [hV]; exact (Below.refl _ _).alloc (Nat.le_refl _) _
      have hs6 : w6.heap.size = wr.heap.size := ht6.size
      have HSV : Hid (Blk V s [.int .i64 x1, .int .i64 y1] 32) := by rw [hV]; exact Blk.new' _ _ _ _ hs
      have HBV : Hid (Below g w V) := HB.out.trans ((ht6.below (by omega)).trans (hVB.mono (by omega)))
      have HIV : Hid (FIter V ma R fa fun z => left z && !(z == (x1, y1))) := hi6.below hVB (by omega) (by omega)
      have HGV : Hid (Blk V g [.int .i64 x, .int .i64 y] 32) := by
        have h1 := HG.out
        have h2 : Blk w6 g [.int .i64 x, .int .i64 y] 32 := by
          unfold Blk at h1 ⊢
          rw [ht6.block g (by omega)]; exact h1
        exact h2.below hVB h2.lt
      have HOV : Hid (OwnR encFd 64 2 V g (.slice ps m cs) l) := by
        have h1 : OwnR encFd 64 2 w6 g (.slice ps m cs) l := HO.out.stay fun k hk => ht6.block k fun e => (ownR_iter HO.out HI.out).1 (by rw [← e]; exact hk)
        exact h1.below hVB
      have HMV : Hid (V.rangeLeft ma R < wr.rangeLeft ma R) := by
        rw [rangeLeft_keep (hVB.block ma (by omega)) (hVB.block R (by omega))]; exact hid hm6
      have HIN : Hid (OwnI V base (.slice vp N vc) (A (x1, y1))) := by
        refine hov.below ?_
        rw [← hge]; exact HBV.out
      have HOW := hid hov
      have HNE := hid (fun (_ : Nat) => hN)
      have HLX := hid hlx
      have HVE := hid (fun (_ : Nat) => hV)
      have HSE := hid (fun (_ : Nat) => hs)
      clear hV hs hVB hs6 hi6 hm6 ht6 hov hsx hN hlx hlt hge hgr HB HI HG HO
      go_upto_region 7 with fail
      rw [← HVE.out 0, ← HSE.out 0]
      clear HVE HSE hen
      have g0 : V.cell? ⟨g, 0, none⟩ = some (.int .i64 x) := HGV.out.cell 0
      have g1 : V.cell? ⟨g, 1, none⟩ = some (.int .i64 y) := HGV.out.cell 1
      have s0 : V.cell? ⟨s, 0, none⟩ = some (.int .i64 x1) := HSV.out.cell 0
      have s1 : V.cell? ⟨s, 1, none⟩ = some (.int .i64 y1) := HSV.out.cell 1
      obtain ⟨D, hD⟩ : ∃ D, D = dist x y x1 y1 := ⟨_, rfl⟩
      have HD := hid (fun (_ : Nat) => hD)
      have hdi := HDI.out x1 y1 V
      rw [← hD] at hdi
      have HDV := hid hdi
      clear hdi hD
      go_upto_region 8 with fail
      refine Calls.mono HDV.out ?_
      rintro _ V1 ⟨rfl, hb1⟩
      have HB1 := hid (HBV.out.trans (hb1.mono (by have := HGV.out.lt; omega)))
      have HI1 := hid (HIV.out.below hb1 HIV.out.lt.1 HIV.out.lt.2.1)
      have HG1 := hid (HGV.out.below hb1 HGV.out.lt)
      have HO1 := hid (HOV.out.below hb1)
      have HIN1 := hid (HIN.out.below hb1)
      have HM1 : Hid (V1.rangeLeft ma R < wr.rangeLeft ma R) := by
        rw [rangeLeft_keep (hb1.block ma HIV.out.lt.1) (hb1.block R HIV.out.lt.2.1)]; exact HMV
      clear hb1 HBV HIV HGV HOV HIN HMV HDV HSV g0 g1 s0 s1
      go_upto_region 8 with fail
      by_cases hfar : r < D
      · go_wp2
        go_roundw
        case rel => exact ⟨_, l, m, ps, cs, rfl, HM, HB1, HI1, HG1, HO1, HGT.out.skip (c := (x1, y1)) (by rw [← HD.out 0]; exact hfar)⟩
        case measure => exact HM1.out
      · have hf : (r < D) = False := by simp; omega
        have hlen : N ≤ 4096 := by
          have h1 := HOK.out.len (x1, y1)
          have h2 := HNE.out 0
          have h3 := HNN.out
          omega
        have hn6 : (N : Int) ≤ 1000000 := by omega
        obtain ⟨ids, hids⟩ : ∃ ids, ids = A (x1, y1) := ⟨_, rfl⟩
        have hmore := HGT.out.more HOK.out (c := (x1, y1)) HLX.out (by rw [← HD.out 0]; omega)
        rw [← hids, ← HD.out 0] at hmore
        rw [← hids] at HOW HNE HIN1
        have hmlen := hmore.len HOK.out
        have HMORE := hid hmore
        obtain ⟨nl, hnl⟩ : ∃ nl : Nat, nl = m + N := ⟨_, rfl⟩
        have hnl2 : nl ≤ 4096 := by
          rw [List.length_append, List.length_map] at hmlen
          have h1 := HM.out
          have h2 := HNE.out 0
          have h3 := HNN.out
          omega
        have HNL := hid (fun (_ : Nat) => hnl)
        have HNL2 := hid hnl2
        clear hmore hids hmlen hlen hnl hnl2 HGT
        have HST : Hid (OwnR encFd 64 2 V1 g (.slice ps m cs) (l ++ (ids.take 0).map fun i => (i, D))) := by
          rw [List.take_zero, List.map_nil, List.append_nil]; exact HO1
        obtain ⟨mz, hmz⟩ : ∃ mz, mz = wr.rangeLeft ma R := ⟨_, rfl⟩
        rw [← hmz] at HM1
        have HMZ := hid (fun (_ : Nat) => hmz)
        clear hmz
        go_wp2_with fail
        go_loopw [7, 33] (fun sv kv wi => ∃ (k m' : Nat) (p' : Option Addr) (c' : Nat), sv = .slice p' m' c' ∧ kv = .int .i64 (k : Int) ∧ k ≤ N ∧ Hid (m' = m + k) ∧ Hid (Below g w wi) ∧ Hid (FIter wi ma R fa fun z => left z && !(z == (x1, y1))) ∧ Hid (Blk wi g [.int .i64 x, .int .i64 y] 32) ∧ Hid (OwnR encFd 64 2 wi g (.slice p' m' c') (l ++ (ids.take k).map fun i => (i, D))) ∧ Hid (wi.rangeLeft ma R < mz)) (fun _ kv _ => N - (intOf kv).toNat)
        case atStart => exact ⟨0, m, ps, cs, rfl, rfl, Nat.zero_le _, rfl, HB1, HI1, HG1, HST, HM1⟩
        case round =>
          clear HB1 HI1 HG1 HO1 HIN1 HM1 HST
          obtain ⟨k, m', p', c', rfl, rfl, hk, HMK, HB2, HI2, HG2, HO2, HM2⟩ := hrel
          by_cases hlt : k < N
          · have hl' : (k : Int) < (N : Int) := by omega
            have hw : Below w.heap.size w wr := by rw [← HGE.out 0]; exact HB2.out
            obtain ⟨sb, so, hvp, hcell⟩ := (HOW.out.below hw).ints.pos k hlt
            obtain ⟨z, hz⟩ : ∃ z, z = ids.getD k 0 := ⟨_, rfl⟩
            have e0 := hcell k hlt
            rw [← hz] at e0
            have htk : (ids.take (k + 1)).map (fun i => (i, D)) = (ids.take k).map (fun i => (i, D)) ++ [(z, D)] := by
              have hkl : k < ids.length := by have := HNE.out 0; omega
              rw [List.take_succ_eq_append_getElem hkl, List.map_append, hz]
              simp [List.getD, List.getElem?_eq_getElem hkl]
            obtain ⟨ls, hls⟩ : ∃ ls, ls = l ++ (ids.take k).map fun i => (i, D) := ⟨_, rfl⟩
            have HTK : Hid (l ++ (ids.take (k + 1)).map (fun i => (i, D)) = ls ++ [(z, D)]) := by
              rw [htk, hls, List.append_assoc]; exact hid rfl
            have hll : ls.length + [(z, D)].length = m' + 1 := by
              have h1 := HM.out
              have h2 := HMK.out
              have h3 := HNE.out 0
              rw [hls, List.length_append, List.length_map, List.length_take, List.length_cons, List.length_nil]
              omega
            rw [← hls] at HO2
            have hm1 : m' + 1 ≤ 1000000 := by have := HNL.out 0; have := HNL2.out; have := HMK.out; omega
            obtain ⟨U, hU⟩ : ∃ U, U = wr.alloc (.cells #[.int .i64 z, .int .i64 D] 64) := ⟨_, rfl⟩
            have hUB : Below wr.heap.size wr U := by rw [hU]; exact (Below.refl _ _).alloc (Nat.le_refl _) _
            have HUG : Hid (RowAt encFd 2 U (.slice (some ⟨wr.heap.size, 0, none⟩) 1 1) [(z, D)]) := by rw [hU]; exact RowAt.one _ _ _ _ rfl
            have hglt := HG2.out.lt
            have HBU := hid (HB2.out.trans (hUB.mono (by omega)))
            have HIU := hid (HI2.out.below hUB HI2.out.lt.1 HI2.out.lt.2.1)
            have HGU := hid (HG2.out.below hUB HG2.out.lt)
            have HOU := hid (HO2.out.below hUB)
            have HMU : Hid (U.rangeLeft ma R < mz) := by
              rw [rangeLeft_keep (hUB.block ma HI2.out.lt.1) (hUB.block R HI2.out.lt.2.1)]; exact HM2
            have HSU : Hid (g ≤ U.heap.size) := by have := HGU.out.lt; exact hid (by omega)
            have HLL := hid hll
            have HM1 := hid hm1
            have HXS := hid (And.intro (ownR_iter HOU.out HIU.out) (ownR_blk HOU.out HGU.out (by decide)))
            rw [hU] at HUG HBU HIU HGU HOU HMU HSU
            subst hvp
            clear hw hcell hz htk hls hll hm1 hU hUB hglt HB2 HI2 HG2 HO2 HM2
            go_wp2_with (first
              | ((with_reducible refine wpL_appendR layFd Try.underlying60 info64 rfl (by omega) g (.slice p' m' c') (.slice (some ⟨wr.heap.size, 0, none⟩) 1 1) ls [(z, D)] (m' + 1) (by simp) HLL.out ?_ ?_ HOU.out HUG.out HM1.out HSU.out ?_); (rfl); (rfl); (intro p5 c5 w5 ho5 hg5); (have HB5 := hid (HBU.out.trans (hg5.belowR HOU.out HSU.out)); have HI5 := hid (HIU.out.keep (hg5.block ma HIU.out.lt.1 HXS.out.1.2) (hg5.block R HIU.out.lt.2.1 HXS.out.1.1)); have HG5 := hid (hg5.blk HGU.out HXS.out.2); have HR5 := hid (rangeLeft_keep (hg5.block ma HIU.out.lt.1 HXS.out.1.2) (hg5.block R HIU.out.lt.2.1 HXS.out.1.1)); rw [← HTK.out] at ho5; have HO5 := hid ho5; clear ho5 hg5); (simp only [Act.put, List.setIfInBounds_toArray, List.set_cons_zero, List.set_cons_succ])))
            go_roundw
            case rel => exact ⟨k + 1, m' + 1, p5, c5, rfl, by simp, by omega, by have := HMK.out; exact hid (by omega), HB5, HI5, HG5, HO5, by rw [HR5.out]; exact HMU⟩
            case measure => simp [intOf]; omega
          · obtain rfl : k = N := by omega
            have hl' : ((k : Int) < (k : Int)) = False := by simp
            have htk : ids.take k = ids := by
              rw [HNE.out 0, List.take_length]
            rw [htk] at HO2
            go_wp2
            go_roundw
            case rel => exact ⟨_, _, m', p', c', rfl, by rw [List.length_append, List.length_map, ← HM.out, ← HNE.out 0]; exact HMK, HB2, HI2, HG2, HO2, HMORE⟩
            case measure => rw [← HMZ.out 0]; exact HM2.out
end Go.Proofs.Ytnilgnnlobiojaa
