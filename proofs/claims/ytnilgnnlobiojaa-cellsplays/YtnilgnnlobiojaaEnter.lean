/- enter 28: an ID that is nowhere is put at a cell. -/
import Derived.Test.YtnilgnnlobiojaaLeave
import Derived.Test.YtnilgnnlobiojaaFork
namespace Go.Proofs.Ytnilgnnlobiojaa
open Go.RowKit
/-- An ID is laid into a rising list. -/
def insL (xs : List Int) (i : Int) : List Int := xs.take (plc xs i) ++ i :: xs.drop (plc xs i)
def insA (A : Cl → List Int) (i : Int) (c : Cl) : Cl → List Int := setA A c (insL (A c) i)
def insF (F : Int → Option Cl) (i : Int) (c : Cl) : Int → Option Cl := fun j => if j = i then some c else F j
theorem run_eqlM (w : World) (mo : Option Nat) : (binOp .eql 53 (.map mo) (.map none)).run Try.prog w = .ok (.bool mo.isNone) w := by
  cases mo <;> kernel_rfl
attribute [local go_sem ↓] run_eqlM
/-- The two maps of an index that had none. -/
theorem Im.begin {W : World} {b base : Nat} {A : Cl → List Int} {F : Int → Option Cl} (h : Blk W b [.map none, .map none] 55) (hb : base ≤ b) (hA : ∀ c, A c = []) (hF : ∀ i, F i = none) (s : Nat) (hs : s = W.heap.size) :
    Im ((((W.alloc (.map #[] 0)).setCell ⟨b, 0, none⟩ (.map (some s))).alloc (.map #[] 0)).setCell ⟨b, 1, none⟩ (.map (some (s + 1)))) b base s (s + 1) (fun _ => none) A F 0 ∧
    (∀ k, k ≠ b → k < W.heap.size → ((((W.alloc (.map #[] 0)).setCell ⟨b, 0, none⟩ (.map (some s))).alloc (.map #[] 0)).setCell ⟨b, 1, none⟩ (.map (some (s + 1)))).heap[k]? = W.heap[k]?) ∧
    (((((W.alloc (.map #[] 0)).setCell ⟨b, 0, none⟩ (.map (some s))).alloc (.map #[] 0)).setCell ⟨b, 1, none⟩ (.map (some (s + 1)))).os = W.os ∧ ((((W.alloc (.map #[] 0)).setCell ⟨b, 0, none⟩ (.map (some s))).alloc (.map #[] 0)).setCell ⟨b, 1, none⟩ (.map (some (s + 1)))).tape = W.tape ∧ ((((W.alloc (.map #[] 0)).setCell ⟨b, 0, none⟩ (.map (some s))).alloc (.map #[] 0)).setCell ⟨b, 1, none⟩ (.map (some (s + 1)))).output = W.output) := by
  have hlt := h.lt
  subst hs
  obtain ⟨V, hV⟩ : ∃ V, V = (W.alloc (.map #[] 0)).setCell ⟨b, 0, none⟩ (.map (some W.heap.size)) := ⟨_, rfl⟩
  have hVs : V.heap.size = W.heap.size + 1 := by rw [hV]; simp
  have hVb : Blk V b [.map (some W.heap.size), .map none] 55 := by
    rw [hV]; exact (h.alloc _).set 0 _
  have hVk : ∀ k, k ≠ b → V.heap[k]? = (W.alloc (.map #[] 0)).heap[k]? := fun k hk => by rw [hV, Below.heap_setCell _ _ _ _ hk]
  rw [← hV]
  obtain ⟨Z, hZ⟩ : ∃ Z, Z = (V.alloc (.map #[] 0)).setCell ⟨b, 1, none⟩ (.map (some (W.heap.size + 1))) := ⟨_, rfl⟩
  have hZb : Blk Z b [.map (some W.heap.size), .map (some (W.heap.size + 1))] 55 := by
    rw [hZ]; exact (hVb.alloc _).set 1 _
  have hZk : ∀ k, k ≠ b → Z.heap[k]? = (V.alloc (.map #[] 0)).heap[k]? := fun k hk => by rw [hZ, Below.heap_setCell _ _ _ _ hk]
  rw [← hZ]
  refine ⟨⟨hZb, ?_, ?_, ⟨hb, by omega, by omega⟩, by omega, fun _ _ => rfl, fun c hc => absurd (hA c) hc, fun _ _ _ _ _ h => by cases h⟩, fun k hk hk2 => ?_, by rw [hZ, hV]; exact ⟨rfl, rfl, rfl⟩⟩
  · have h1 : FMap V W.heap.size (fun _ => none) := (FMap.new W).keep (hVk _ (by omega))
    exact h1.keep ((hZk _ (by omega)).trans (Below.heap_alloc V _ _ (by omega)))
  · have e : (fun i => (F i).map cellV) = fun _ => none := by funext i; rw [hF i]; rfl
    rw [e]
    have h1 := IMap.new V
    rw [hVs] at h1
    exact h1.keep (hZk _ (by omega))
  · rw [hZk k hk, Below.heap_alloc V _ _ (by omega), hVk k hk, Below.heap_alloc W _ _ hk2]
/-- The row that is at a cell; none: no row. -/
theorem Im.row {w : World} {b base ma mw n : Nat} {fa : Cl → Option Value} {A : Cl → List Int} {F : Int → Option Cl} (h : Im w b base ma mw fa A F n) (c : Cl) :
    ∃ p cap, (fa c).getD (.slice none 0 0) = .slice p (A c).length cap ∧ OwnI w base (.slice p (A c).length cap) (A c) ∧ (fa c = some (.slice p (A c).length cap) ∨ Value.slice p (A c).length cap = .slice none 0 0) := by
  by_cases hc : A c = []
  · rw [h.off c hc, hc]
    exact ⟨none, 0, rfl, OwnI.nil w base, Or.inr rfl⟩
  · obtain ⟨v, h1, h2⟩ := h.on c hc
    obtain ⟨p, cap, rfl⟩ := h2.form
    exact ⟨p, cap, by rw [h1]; rfl, h2, Or.inl h1⟩
set_option maxRecDepth 20000 in
set_option maxHeartbeats 4000000 in
theorem enter_any (b base n : Nat) (fa : Cl → Option Value) (A : Cl → List Int) (F : Int → Option Cl) (i x y : Int) (w : World) (h : Jx w b base fa A F n) (hF : F i = none) (hs : (A (x, y)).Pairwise (· < ·)) (hn : (A (x, y)).length ≤ 1000000) (hbase : base ≤ w.heap.size) :
    Calls Try.prog 28 #[.pointer (some ⟨b, 0, none⟩), .int .i64 i, C x y] w fun e w' => e = .returned (.tuple #[]) ∧ (∃ fa', Jx w' b base fa' (insA A i (x, y)) (insF F i (x, y)) (n + 1) ∧ Own2 w fa fa') ∧ Below base w w' ∧ Kept2 fa w w' := by
  obtain ⟨W, hW⟩ : ∃ W, W = w.alloc (.cells #[.int .i64 x, .int .i64 y] 32) := ⟨_, rfl⟩
  obtain ⟨g, hg⟩ : ∃ g, g = w.heap.size := ⟨_, rfl⟩
  have HB0 : Hid (Below w.heap.size w W) := by rw [hW]; exact (Below.refl _ _).alloc (Nat.le_refl _) _
  have HG0 : Hid (Blk W g [.int .i64 x, .int .i64 y] 32) := by rw [hW]; exact Blk.new' _ _ _ _ hg
  have HK0 : Hid (Kept2 fa w W) := Kept2.below HB0.out
  have HI0 := hid (h.below HB0.out)
  have HBL := hid hbase
  have HF := hid hF
  have HGE := hid (fun (_ : Nat) => hg)
  clear h hF hbase
  unfold C
  go_enter Try.func28, Try.ntmps28
  go_upto_region 1 with fail
  rw [← hW, ← hg]
  clear hW hg
  obtain ⟨mo, c1, hmo⟩ : ∃ mo, W.cell? ⟨b, 1, none⟩ = some (.map mo) ∧ Hid ((mo.isNone = true ∧ (Blk W b [.map none, .map none] 55 ∧ base ≤ b ∧ (∀ c, A c = []) ∧ (∀ i, F i = none) ∧ n = 0) ∧ fa = fun _ => none) ∨ (mo.isNone = false ∧ ∃ ma mw, Im W b base ma mw fa A F n)) := by
    rcases HI0.out with ⟨h1, h2⟩ | ⟨ma, mw, h1⟩
    · exact ⟨none, h1.1.cell 1, Or.inl ⟨rfl, h1, h2⟩⟩
    · exact ⟨some mw, h1.blk.cell 1, Or.inr ⟨rfl, ma, mw, h1⟩⟩
  go_upto_if 12 with fail
  go_cut [] (fun W1 => (∃ ma mw, Im W1 b base ma mw fa A F n) ∧ Blk W1 g [.int .i64 x, .int .i64 y] 32 ∧ Below base w W1 ∧ Kept2 fa w W1)
  case first =>
    rcases hmo.out with ⟨hb, ⟨h1, h2, h3, h4, h5⟩, hfa⟩ | ⟨hb, ma, mw, h1⟩
    · obtain rfl : mo = none := by simpa using hb
      simp only [Option.isNone_none]
      have g0 : (W.alloc (.map #[] 0)).frozen? ⟨b, 0, none⟩ = false := (h1.alloc _).frozen 0
      have e0 : (W.alloc (.map #[] 0)).cell? ⟨b, 0, none⟩ = some (.map none) := (h1.alloc _).cell 0
      have hmm := @run_makeMap Try.prog
      obtain ⟨s, hs0⟩ : ∃ s, s = W.heap.size := ⟨_, rfl⟩
      obtain ⟨hm1, hm2, hm3⟩ := Im.begin h1 h2 h3 h4 s hs0
      have HM3 := hid hm3
      rw [← hfa] at hm1
      have HM1 := hid hm1
      have HM2 := hid hm2
      clear hm1 hm2 hm3
      go_upto_region 3 with fail
      rw [← hs0]
      obtain ⟨V, hV⟩ : ∃ V, V = (W.alloc (.map #[] 0)).setCell ⟨b, 0, none⟩ (.map (some s)) := ⟨_, rfl⟩
      have hVs : V.heap.size = s + 1 := by rw [hV, hs0]; simp
      have hVb : Blk V b [.map (some s), .map none] 55 := by rw [hV]; exact (h1.alloc _).set 0 _
      rw [← hV] at HM1 HM2 HM3 ⊢
      have g1 : (V.alloc (.map #[] 0)).frozen? ⟨b, 1, none⟩ = false := (hVb.alloc _).frozen 1
      have e1 : (V.alloc (.map #[] 0)).cell? ⟨b, 1, none⟩ = some (.map none) := (hVb.alloc _).cell 1
      have HVS := hid hVs
      have HS0 := hid (fun (_ : Nat) => hs0)
      have H5 := hid h5
      have HB := hid h1.lt
      have HBB := hid h2
      have HBK := hid h1
      clear hV g0 e0 hs0 hVs h5
      go_wp2
      rw [HVS.out]
      go_meet
      refine ⟨⟨s, s + 1, ?_⟩, ?_, ?_⟩
      · rw [H5.out]; exact HM1.out
      · have h6 := HG0.out
        have h7 := h6.lt
        have h8 : g ≠ b := by
          rintro rfl
          have := HG0.out.inj h1
          cases this
        unfold Blk at h6 ⊢
        rw [HM2.out g h8 h7]; exact h6
      · refine ⟨(HB0.out.mono HBL.out).trans ⟨HM3.out.1, HM3.out.2.1, HM3.out.2.2, ?_, fun k hk => ?_⟩, HK0.out.trans fun k cs t z hk h55 _ => HM2.out k ?_ (Array.getElem?_eq_some_iff.1 hk).1⟩
        · simp only [World.size_setCell, World.size_alloc]
          have := HS0.out 0
          have := HVS.out
          omega
        · exact HM2.out k (by have := HBB.out; omega) (by have := HBL.out; have := HB0.out.size; omega)
        · rintro rfl
          have h6 := HBK.out
          unfold Blk at h6
          rw [h6] at hk
          cases hk
          exact h55 rfl
    · obtain ⟨m0, rfl⟩ : ∃ m0, mo = some m0 := Option.ne_none_iff_exists'.1 (by rintro rfl; cases hb)
      simp only [Option.isNone_some]
      go_wp2
      go_meet
      exact ⟨⟨ma, mw, h1⟩, HG0.out, HB0.out.mono HBL.out, HK0.out⟩
  case rest =>
    clear HI0 HG0 hmo c1 HB0
    obtain ⟨⟨ma, mw, hi1⟩, hg1, hb1, hk1⟩ := hcut
    have HK1 := hid hk1
    clear hk1
    obtain ⟨vp, vc, hvv, hov, hvc⟩ := hi1.row (x, y)
    obtain ⟨ln, hln⟩ : ∃ ln, ln = (A (x, y)).length := ⟨_, rfl⟩
    rw [← hln] at hvv hov hvc
    have HI1 := hid hi1
    have HG1 := hid hg1
    have HB1 := hid hb1
    have HVV := hid hvv
    have HV1 := hid hov
    have HVC := hid hvc
    have HLN := hid (fun (_ : Nat) => hln)
    clear hi1 hg1 hb1 hvv hov hvc hln
    have k0 : ∀ q : Ky b ma mw g x y (.slice vp ln vc), q.w.cell? ⟨b, 0, none⟩ = some (.map (some ma)) := fun q => q.c0
    have k1 : ∀ q : Ky b ma mw g x y (.slice vp ln vc), q.w.cell? ⟨b, 1, none⟩ = some (.map (some mw)) := fun q => q.c1
    have k2 : ∀ q : Ky b ma mw g x y (.slice vp ln vc), q.w.cell? ⟨g, 0, none⟩ = some (.int .i64 x) := fun q => q.g0
    have k3 : ∀ q : Ky b ma mw g x y (.slice vp ln vc), q.w.cell? ⟨g, 1, none⟩ = some (.int .i64 y) := fun q => q.g1
    have k4 : ∀ q : Ky b ma mw g x y (.slice vp ln vc), (Instr.lookup 52 (.map (some ma)) (.agg #[.int .i64 x, .int .i64 y]) false).run Try.prog q.w = .ok (.slice vp ln vc) q.w := fun q => q.lk
    go_upto_region 4 with fail
    refine wp_region_calm (S := fun w' => ∃ q : Ky b ma mw g x y (.slice vp ln vc), w' = q.w) ((0, false) :: (1, false) :: (2, false) :: (3, false) :: (4, false) :: (5, false) :: (6, false) :: (7, true) :: (8, false) :: (9, false) :: (10, false) :: (11, false) :: (12, false) :: []) rfl (by kernel_rfl) (by kernel_rfl) (by kernel_rfl) (ky (HI1.out.keep fun _ _ _ => rfl) HG1.out HVV.out) ?_
    iterate 7 (refine plan_take rfl (fun K hK => ?_); go_simp; (refine ⟨_, fun _ => rfl, hK _ ?_⟩); clear hK K)
    refine plan_turn rfl (fun K hK => ?_)
    go_simp
    refine Calls.mono (search_any base (.slice vp ln vc) (A (x, y)) i _ (show OwnI wc.drew base _ _ from HV1.out) hs hn) ?_
    rintro _ _ ⟨rfl, nd, rfl⟩
    refine hK _ _ (ky (HI1.out.keep fun _ _ _ => rfl) HG1.out HVV.out) ?_
    clear hK K
    obtain ⟨iq, hiq⟩ : ∃ iq, iq = (A (x, y)).contains i := ⟨_, rfl⟩
    obtain ⟨pl, hpl⟩ : ∃ pl, pl = List.countP (fun z => decide (z < i)) (A (x, y)) := ⟨_, rfl⟩
    rw [← hpl, ← hiq]
    have hpl1 : pl ≤ (A (x, y)).length := by rw [hpl]; exact plc_le _ _
    have HLE := hid hpl1
    have HPL : Hid (plc (A (x, y)) i = pl) := hpl.symm
    clear hiq hpl hpl1
    iterate 5 (refine plan_take rfl (fun K hK => ?_); go_simp; (refine ⟨_, fun _ => rfl, hK _ ?_⟩); clear hK K)
    refine plan_done ⟨rfl, ?_⟩
    obtain ⟨W3, hW3⟩ : ∃ W3, W3 = wc.drew.drewN nd := ⟨_, rfl⟩
    have HI3 : Hid (Im W3 b base ma mw fa A F n) := by rw [hW3]; exact HI1.out.keep fun _ _ _ => rfl
    have HG3 : Hid (Blk W3 g [.int .i64 x, .int .i64 y] 32) := by rw [hW3]; exact HG1.out
    have HV3 : Hid (OwnI W3 base (.slice vp ln vc) (A (x, y))) := by rw [hW3]; exact HV1.out
    have HK3 : Hid (Kept2 fa w W3) := by rw [hW3]; exact HK1.out
    have HB3 : Hid (Below base w W3) := by rw [hW3]; exact Below.drewN (Below.drewN HB1.out 1) nd
    rw [← hW3]
    clear hW3 HI1 HG1 HV1 HB1 k0 k1 k2 k3 k4
    have z0 : ∀ q : Kz b ma mw g x y, q.w.cell? ⟨b, 0, none⟩ = some (.map (some ma)) := fun q => q.c0
    have z1 : ∀ q : Kz b ma mw g x y, q.w.cell? ⟨b, 1, none⟩ = some (.map (some mw)) := fun q => q.c1
    have z2 : ∀ q : Kz b ma mw g x y, q.w.cell? ⟨g, 0, none⟩ = some (.int .i64 x) := fun q => q.g0
    have z3 : ∀ q : Kz b ma mw g x y, q.w.cell? ⟨g, 1, none⟩ = some (.int .i64 y) := fun q => q.g1
    go_upto_region 5 with fail
    refine wp_region_fork (S := fun w' => ∃ q : Kz b ma mw g x y, w' = q.w) [0, 1, 2, 3, 4, 5, 6, 7, 8, 9, 11, 12] 10 13 ((14, true) :: (15, true) :: []) rfl (by kernel_rfl) (by kernel_rfl) (by kernel_rfl) (kz (HI3.out.keep fun _ _ _ => rfl) HG3.out) ?_
    obtain ⟨W4, hW4⟩ : ∃ W4, W4 = W3.drew := ⟨_, rfl⟩
    have HI4 : Hid (Im W4 b base ma mw fa A F n) := by rw [hW4]; exact HI3.out.keep fun _ _ _ => rfl
    have HG4 : Hid (Blk W4 g [.int .i64 x, .int .i64 y] 32) := by rw [hW4]; exact HG3.out
    have HV4 : Hid (OwnI W4 base (.slice vp ln vc) (A (x, y))) := by rw [hW4]; exact HV3.out
    have HK4 : Hid (Kept2 fa w W4) := by rw [hW4]; exact HK3.out
    have HB4 : Hid (Below base w W4) := by rw [hW4]; exact Below.drewN HB3.out 1
    rw [← hW4]
    clear hW4 HI3 HG3 HV3 HB3
    iterate 12 (refine fork_take rfl (fun K hK => ?_); go_simp; (refine ⟨_, fun _ => rfl, hK _ ?_⟩); clear hK K)
    obtain ⟨vb, hvb⟩ : ∃ vb, vb = W4.heap.size := ⟨_, rfl⟩
    obtain ⟨V, hV⟩ : ∃ V, V = W4.alloc (.cells #[.int .i64 i] 3) := ⟨_, rfl⟩
    have HBV := hid (show Below W4.heap.size W4 V by rw [hV]; exact (Below.refl _ _).alloc (Nat.le_refl _) _)
    have HK5 := hid (HK4.out.trans (Kept2.below HBV.out))
    have HI5 := hid (HI4.out.below HBV.out)
    have HG5 := hid (HG4.out.below HBV.out HG4.out.lt)
    have HV5 := hid (HV4.out.below HBV.out)
    have HN5 : Hid (Blk V vb [.int .i64 i] 3) := by rw [hV]; exact Blk.new' _ _ _ _ hvb
    have HB5 := hid (HB4.out.trans (HBV.out.mono (Nat.le_trans HBL.out HB4.out.size)))
    have HOV : Hid ((Value.slice vp ln vc).ownBlock ≠ some vb) := fun e => by
      have := (HV4.out.block vb e).2
      omega
    have HBW : Hid (base ≤ V.heap.size) := Nat.le_trans HBL.out HB5.out.size
    refine fork_both ?A ?B
    case' A =>
      refine plan_turn rfl (fun K hK => ?_)
      rw [if_pos (by rfl)]
      refine turn_of_list (ops := #[]) rfl ?_
      refine wpL_look1 40 Try.underlying52 (.slice none 0 0) zero40 ma fa x y rfl rfl HI4.out.fm ?_
      rw [HVV.out]
      refine ⟨rfl, ?_⟩
      refine hK _ _ (kz HI4.out HG4.out) ?_
      clear hK K
      refine plan_turn rfl (fun K hK => ?_)
      go_simp
      rw [← hV, ← hvb]
      clear hV hvb
      refine hK _ _ (kz HI5.out HG5.out) ?_
      clear hK K
    case' B =>
      refine plan_turn rfl (fun K hK => ?_)
      go_simp
      rw [← hV, ← hvb]
      clear hV hvb
      refine hK _ _ (kz HI5.out HG5.out) ?_
      clear hK K
      refine plan_turn rfl (fun K hK => ?_)
      rw [if_pos (by rfl)]
      refine turn_of_list (ops := #[]) rfl ?_
      refine wpL_look1 40 Try.underlying52 (.slice none 0 0) zero40 ma fa x y rfl rfl HI5.out.fm ?_
      rw [HVV.out]
      refine ⟨rfl, ?_⟩
      refine hK _ _ (kz HI5.out HG5.out) ?_
      clear hK K
    all_goals
      refine plan_turn rfl (fun K hK => ?_)
      go_simp
      refine Calls.mono (insert_any base (.slice vp ln vc) (A (x, y)) pl i vb V HV5.out HLE.out hn HN5.out HOV.out HBW.out) ?_
      rintro _ W6 ⟨v6, rfl, ho6, hg6⟩
      have hvn : ∀ k, (Value.slice vp ln vc).ownBlock = some k → k ≠ b ∧ k ≠ ma ∧ k ≠ mw ∧ k ≠ g := fun k hk => by
        obtain ⟨es, ck, l', hm, _⟩ := HI5.out.fm
        obtain ⟨es2, ck2, l2, _, hm2, _⟩ := HI5.out.im
        exact ⟨own_blk HV5.out hk HI5.out.blk (by decide), own_map HV5.out hk hm, own_map HV5.out hk hm2, own_blk HV5.out hk HG5.out (by decide)⟩
      have hB6 : Blk W6 b [.map (some ma), .map (some mw)] 55 := hg6.blk HI5.out.blk fun e => (hvn b e).1 rfl
      have hG6 : Blk W6 g [.int .i64 x, .int .i64 y] 32 := hg6.blk HG5.out fun e => (hvn g e).2.2.2 rfl
      have hM6 : FMap W6 ma fa := HI5.out.fm.keep (hg6.block ma HI5.out.fm.lt fun e => (hvn ma e).2.1 rfl)
      refine hK _ _ ⟨⟨W6, hB6.cell 0, hB6.cell 1, hG6.cell 0, hG6.cell 1⟩, rfl⟩ ?_
      clear hK K
      refine plan_turn rfl (fun K hK => ?_)
      rw [if_pos (by rfl)]
      refine turn_of_list (ops := #[]) rfl ?_
      refine wpL_upd 40 Try.underlying52 ma fa x y v6 rfl rfl rfl hM6 ?_
      intro W7 hf7 ht7
      have hne : (A (x, y)).take pl ++ i :: (A (x, y)).drop pl ≠ [] := by simp
      have HI7 := hid (HI5.out.put HV5.out HVC.out hg6 ho6 hne hf7 ht7)
      have HG7 : Hid (Blk W7 g [.int .i64 x, .int .i64 y] 32) := by
        have h1 := hG6
        have h2 := hM6.ne h1
        unfold Blk at h1 ⊢
        unfold Hid
        rw [ht7.block g (Ne.symm h2)]; exact h1
      have HK7 := hid ((HK5.out.trans (Kept2.gro HVC.out hg6)).trans (Kept2.turnF hM6 ht7))
      have HW7 : Hid (Own2 w fa (putF fa (x, y) v6)) := Own2.put HVC.out hg6 HB5.out.size
      have HB7 := hid ((HB5.out.trans (hg6.below HV5.out HBW.out)).trans (ht7.below HI5.out.hb.2.1))
      refine ⟨rfl, ?_⟩
      refine hK _ _ (kz HI7.out HG7.out) ?_
      clear hK K
      refine plan_done ⟨rfl, ?_⟩
      clear hg6 ho6 hvn hB6 hG6 hM6 hf7 ht7 hne
      simp only [Act.put]
      go_upto_region 6 with fail
      refine wp_region_calm (S := fun w' => ∃ q : Kz b ma mw g x y, w' = q.w) ((0, false) :: (1, false) :: (2, false) :: (3, false) :: (4, false) :: (5, false) :: (6, true) :: []) rfl (by kernel_rfl) (by kernel_rfl) (by kernel_rfl) (kz (HI7.out.keep fun _ _ _ => rfl) HG7.out) ?_
      iterate 6 (refine plan_take rfl (fun K hK => ?_); go_simp; (refine ⟨_, fun _ => rfl, hK _ ?_⟩); clear hK K)
      refine plan_turn rfl (fun K hK => ?_)
      rw [if_pos (by rfl)]
      refine turn_of_list (ops := #[]) rfl ?_
      refine wpL_updI 32 Try.underlying53 mw _ i (cellV (x, y)) rfl rfl rfl (HI7.out.im.keep rfl) ?_
      intro W8 hi8 ht8
      have HI8 : Hid (Im W8 b base ma mw (putF fa (x, y) v6) (insA A i (x, y)) (insF F i (x, y)) (n + 1)) := by
        have e1 : ((F i).map cellV).isSome = false := by rw [HF.out]; rfl
        rw [if_neg (by rw [e1]; decide)] at hi8
        have e2 : putG (fun i => (F i).map cellV) i (cellV (x, y)) = fun j => (insF F i (x, y) j).map cellV := by
          funext j
          unfold putG insF
          by_cases hj : j = i
          · rw [if_pos hj, if_pos hj]; rfl
          · rw [if_neg hj, if_neg hj]
        rw [e2] at hi8
        have h9 := HI7.out.turnW hi8 ht8.undrew
        unfold insA insL
        rw [HPL.out]
        exact hid h9
      have HG8 : Blk W8 g [.int .i64 x, .int .i64 y] 32 := by
        have h1 := HG7.out
        have h2 := HI7.out.im.ne h1
        unfold Blk at h1 ⊢
        rw [ht8.block g (Ne.symm h2)]; exact h1
      have HK8 := hid (HK7.out.trans (Kept2.turnI HI7.out.im ht8.undrew))
      have HB8 := hid (HB7.out.trans (ht8.undrew.below HI7.out.hb.2.2))
      refine ⟨rfl, ?_⟩
      refine hK _ _ (kz HI8.out HG8) ?_
      clear hK K
      refine plan_done ⟨rfl, ?_⟩
      clear hi8 ht8 HG8
      simp only [Act.put]
      go_wp2
      first
        | go_end0
        | refine bodyPost_ret (results_none Try.results28 _ _ _) rfl ?_
      exact ⟨rfl, ⟨_, Or.inr ⟨_, _, HI8.out⟩, HW7.out⟩, HB8.out, HK8.out⟩
end Go.Proofs.Ytnilgnnlobiojaa
