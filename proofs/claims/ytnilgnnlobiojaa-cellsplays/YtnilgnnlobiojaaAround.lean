/- Around 15. -/
import Derived.Test.YtnilgnnlobiojaaWithin
namespace Go.Proofs.Ytnilgnnlobiojaa
open Go.RowKit
theorem within_any (b base n : Nat) (A : Cl → List Int) (F : Int → Option Cl) (x y r : Int) (w : World) (h : Ix w b base A F n) (hok : Ok A F n) (hn : n ≤ 4096) :
    Calls Try.prog 30 #[.pointer (some ⟨b, 0, none⟩), C x y, .int .i64 r] w fun e w' => OutW w F x y r n e w' := by
  rcases h with ⟨h1, _, _, h4, _⟩ | ⟨ma, mw, fa, h⟩
  · exact within_none b n F x y r w h1 h4
  · exact within_some b base n ma mw fa A F x y r w h hok hn
/-- The near ones in their order. -/
def Ring (F : Int → Option Cl) (x y r : Int) (s : List Fd) : Prop := Sorted s ∧ s.Nodup ∧ ∀ q, q ∈ s ↔ Near F x y r q
theorem ltF_tri {p q : Fd} (h1 : ltF p q = false) (h2 : ltF q p = false) : p = q := by
  rw [ltF_not] at h1 h2
  exact Prod.ext (by omega) (by omega)
theorem sorted_ext : ∀ {s t : List Fd}, Sorted s → Sorted t → s.Nodup → t.Nodup → (∀ q, q ∈ s ↔ q ∈ t) → s = t
  | [], [], _, _, _, _, _ => rfl
  | [], b :: t, _, _, _, _, h => absurd ((h b).2 (by simp)) List.not_mem_nil
  | a :: s, [], _, _, _, _, h => absurd ((h a).1 (by simp)) List.not_mem_nil
  | a :: s, b :: t, hs, ht, ns, nt, h => by
    unfold Sorted at hs ht
    rw [List.pairwise_cons] at hs ht
    rw [List.nodup_cons] at ns nt
    have hab : a = b := by
      rcases List.mem_cons.1 ((h a).1 (by simp)) with e | h1
      · exact e
      · rcases List.mem_cons.1 ((h b).2 (by simp)) with e | h2
        · exact e.symm
        · exact ltF_tri (ht.1 a h1) (hs.1 b h2)
    subst hab
    rw [sorted_ext hs.2 ht.2 ns.2 nt.2 fun q => ?_]
    have := h q
    simp only [List.mem_cons] at this
    constructor
    · intro hq
      rcases this.1 (Or.inr hq) with rfl | h3
      · exact absurd hq ns.1
      · exact h3
    · intro hq
      rcases this.2 (Or.inr hq) with rfl | h3
      · exact absurd hq nt.1
      · exact h3
theorem Ring.ext {F : Int → Option Cl} {x y r : Int} {s t : List Fd} (h : Ring F x y r s) (k : Ring F x y r t) : s = t :=
  sorted_ext h.1 k.1 h.2.1 k.2.1 fun q => by rw [h.2.2, k.2.2]
set_option maxRecDepth 20000 in
set_option maxHeartbeats 4000000 in
theorem around_any (b base n : Nat) (A : Cl → List Int) (F : Int → Option Cl) (x y r : Int) (w : World) (h : Ix w b base A F n) (hok : Ok A F n) (hn : n ≤ 4096) :
    Calls Try.prog 15 #[.pointer (some ⟨b, 0, none⟩), C x y, .int .i64 r] w fun e w' => ∃ s, Ring F x y r s ∧ s.length ≤ n ∧ OutI w (s.map Prod.fst) e w' := by
  obtain ⟨g, hg⟩ : ∃ g, g = w.heap.size := ⟨_, rfl⟩
  obtain ⟨W, hW⟩ : ∃ W, W = w.alloc (.cells #[.int .i64 x, .int .i64 y] 32) := ⟨_, rfl⟩
  have hB : Below w.heap.size w W := by rw [hW]; exact (Below.refl _ _).alloc (Nat.le_refl _) _
  have hG : Blk W g [.int .i64 x, .int .i64 y] 32 := by rw [hW]; exact Blk.new' _ _ _ _ hg
  have hwi := within_any b base n A F x y r W (h.below hB) hok hn
  have HWI := hid hwi
  have HB := hid hB
  have HNN := hid hn
  have c0 : W.cell? ⟨g, 0, none⟩ = some (.int .i64 x) := hG.cell 0
  have c1 : W.cell? ⟨g, 1, none⟩ = some (.int .i64 y) := hG.cell 1
  clear hB hG hwi h hok hn
  obtain ⟨Q, hQ⟩ : ∃ Q, Q = fun e w' => ∃ s, Ring F x y r s ∧ s.length ≤ n ∧ OutI w (s.map Prod.fst) e w' := ⟨_, rfl⟩
  have HQ := hid (fun (_ : Nat) => hQ)
  have hQe : ∀ e w', (∃ s, Ring F x y r s ∧ s.length ≤ n ∧ OutI w (s.map Prod.fst) e w') = Q e w' := fun e w' => by rw [hQ]
  simp only [hQe]
  clear hQ hQe
  unfold C at *
  go_enter Try.func15, Try.ntmps15
  go_upto_region 1 with fail
  rw [← hW, ← hg]
  clear hW hg
  go_upto_region 2 with fail
  refine Calls.mono HWI.out ?_
  rintro _ W1 ⟨l, p, cap, rfl, ho, hnd, hmem, hlen, hb1⟩
  obtain ⟨m, hm⟩ : ∃ m, m = l.length := ⟨_, rfl⟩
  rw [← hm] at ho hlen ⊢
  have hso := sort_any l p m cap W.heap.size W1 hm ho (by have := HNN.out; omega)
  have HSO := hid hso
  have HB1 := hid (HB.out.trans (hb1.mono HB.out.size))
  have HME := hid (And.intro hnd hmem)
  have HLE := hid hlen
  have HMM := hid (fun (_ : Nat) => hm)
  clear hso hb1 hnd hmem hlen hm ho HWI c0 c1
  go_upto_region 3 with fail
  refine Calls.mono HSO.out ?_
  rintro _ W2 ⟨rfl, ys, hperm, hsort, hrow, hb2⟩
  have hyl : m = ys.length := by rw [HMM.out 0, hperm.length_eq]
  have HRI : Hid (Ring F x y r ys) := ⟨hsort, hperm.nodup_iff.2 HME.out.1, fun q => by rw [hperm.mem_iff]; exact HME.out.2 q⟩
  have HB2 := hid (HB1.out.trans (hb2.mono HB.out.size))
  have HRW := hid hrow
  have HYL := hid (fun (_ : Nat) => hyl)
  have hm6 : (m : Int) ≤ 1000000 := by have := HLE.out; have := HNN.out; omega
  clear hperm hsort hrow hb2 hyl HSO HME HMM HB1
  obtain ⟨S, hS⟩ : ∃ S, S = W2.heap.size := ⟨_, rfl⟩
  have HSE := hid (fun (_ : Nat) => hS)
  have HBS : Hid (Below S W2 W2) := Below.refl _ _
  have HOS : Hid (OwnI W2 S (.slice none 0 0) ((ys.take 0).map Prod.fst)) := OwnI.nil _ _
  clear hS
  go_upto_region 5 with fail
  go_wp2_with fail
  go_loopw [8, 19] (fun sv iv wr => ∃ (i : Nat) (ps : Option Addr) (cs : Nat), sv = .slice ps i cs ∧ iv = .int .i64 (i : Int) ∧ i ≤ m ∧ Hid (Below S W2 wr) ∧ Hid (OwnI wr S (.slice ps i cs) ((ys.take i).map Prod.fst))) (fun _ iv _ => m - (intOf iv).toNat)
  case atStart => exact ⟨0, none, 0, rfl, rfl, Nat.zero_le _, HBS, HOS⟩
  case round =>
    clear HBS HOS
    obtain ⟨i, ps, cs, rfl, rfl, hi, HB3, HO3⟩ := hrel
    by_cases hlt : i < m
    · have hl' : (i : Int) < (m : Int) := by omega
      have hbr : Below W2.heap.size W2 wr := by rw [← HSE.out 0]; exact HB3.out
      obtain ⟨hx, sb, so, hps, hsb, hcell⟩ := RowAt.pos layFd (HRW.out.below hbr) i hlt
      obtain ⟨q0, q1, hq⟩ : ∃ q0 q1, ys[i] = (q0, q1) := ⟨_, _, rfl⟩
      have e0 : wr.cell? ⟨sb, so + i * 2, none⟩ = some (.int .i64 q0) := by have := hcell 0 (.int .i64 q0) (by rw [hq]; rfl); exact this
      have e1 : wr.cell? ⟨sb, so + i * 2 + 1, none⟩ = some (.int .i64 q1) := hcell 1 (.int .i64 q1) (by rw [hq]; rfl)
      have htk : (ys.take (i + 1)).map Prod.fst = (ys.take i).map Prod.fst ++ [q0] := by
        rw [List.take_succ_eq_append_getElem hx, List.map_append, hq]; rfl
      obtain ⟨zs, hzs⟩ : ∃ zs, zs = (ys.take i).map Prod.fst := ⟨_, rfl⟩
      have hzl : zs.length = i := by rw [hzs, List.length_map, List.length_take]; omega
      rw [← hzs] at htk HO3
      have HTK := hid htk
      have HZL : Hid (zs.length + [q0].length = i + 1) := by rw [hzl]; exact hid rfl
      obtain ⟨V, hV⟩ : ∃ V, V = wr.alloc (.cells #[.int .i64 q0, .int .i64 q1] 64) := ⟨_, rfl⟩
      obtain ⟨gb, hgb⟩ : ∃ gb, gb = wr.heap.size := ⟨_, rfl⟩
      have hVB : Below wr.heap.size wr V := by rw [hV]; exact (Below.refl _ _).alloc (Nat.le_refl _) _
      have HVG : Hid (Blk V gb [.int .i64 q0, .int .i64 q1] 64) := by rw [hV]; exact Blk.new' _ _ _ _ hgb
      have hsw : S ≤ wr.heap.size := by rw [HSE.out 0]; exact hbr.size
      have HBV := hid (HB3.out.trans (hVB.mono hsw))
      have HOV := hid (HO3.out.below hVB)
      have HSV : Hid (S ≤ V.heap.size) := Nat.le_trans hsw hVB.size
      have HVE := hid (fun (_ : Nat) => hV)
      have HGB := hid (fun (_ : Nat) => hgb)
      subst hps
      clear hcell hbr hq htk hzs hzl hV hgb hVB hsw HB3 HO3
      go_upto_region 7 with fail
      rw [← HVE.out 0, ← HGB.out 0]
      clear HVE HGB e0 e1
      have b0 : V.cell? ⟨gb, 0, none⟩ = some (.int .i64 q0) := HVG.out.cell 0
      obtain ⟨U, hU⟩ : ∃ U, U = V.alloc (.cells #[.int .i64 q0] 3) := ⟨_, rfl⟩
      have hUB : Below V.heap.size V U := by rw [hU]; exact (Below.refl _ _).alloc (Nat.le_refl _) _
      have HUG : Hid (IntsAt U (.slice (some ⟨V.heap.size, 0, none⟩) 1 1) [q0]) := by rw [hU]; exact ints_one V _ q0 rfl
      have HBU := hid (HBV.out.trans (hUB.mono HSV.out))
      have HOU := hid (HOV.out.below hUB)
      have HSU : Hid (S ≤ U.heap.size) := Nat.le_trans HSV.out hUB.size
      rw [hU] at HUG HBU HOU HSU
      clear hU hUB HBV HOV HSV HVG
      go_wp2_with (first
        | ((with_reducible refine wpL_append S (.slice ps i cs) (.slice (some ⟨V.heap.size, 0, none⟩) 1 1) zs [q0] (i + 1) HZL.out ?_ ?_ HOU.out HUG.out (by omega) HSU.out ?_); (rfl); (rfl); (intro p5 c5 w5 ho5 hb5); (have HB5 := hid (HBU.out.trans hb5); rw [← HTK.out] at ho5; have HO5 := hid ho5; clear ho5 hb5); (simp only [Act.put, List.setIfInBounds_toArray, List.set_cons_zero, List.set_cons_succ])))
      go_roundw
      case rel => exact ⟨i + 1, p5, c5, rfl, by simp, by omega, HB5, HO5⟩
      case measure => simp [intOf]; omega
    · obtain rfl : i = m := by omega
      have hl' : ((i : Int) < (i : Int)) = False := by simp
      go_wp2
      rw [HQ.out 0]
      have h1 := HYL.out 0
      refine ⟨ys, HRI.out, by rw [← h1]; exact HLE.out, ?_⟩
      have h2 := HO3.out
      rw [h1, List.take_length] at h2
      refine ⟨ps, cs, ?_, ?_, ?_⟩
      · rw [List.length_map, ← h1]; rfl
      · rw [List.length_map]
        exact h2.mono (by rw [HSE.out 0]; exact HB2.out.size)
      · exact HB2.out.trans (HB3.out.mono (by rw [HSE.out 0]; exact HB2.out.size))
end Go.Proofs.Ytnilgnnlobiojaa
