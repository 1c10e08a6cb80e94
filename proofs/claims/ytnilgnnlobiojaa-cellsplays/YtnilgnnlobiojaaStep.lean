/- The law's step 10. -/
import Derived.Test.YtnilgnnlobiojaaPclose
import Derived.Test.YtnilgnnlobiojaaRtake
import Derived.Test.YtnilgnnlobiojaaRwhere
import Derived.Test.YtnilgnnlobiojaaSame
namespace Go.Proofs.Ytnilgnnlobiojaa
open Go.RowKit
attribute [local go_sem ↓] run_neqC run_eqlC
theorem St.keptOf {w w' : World} {b base n : Nat} {fa : Cl → Option Value} {F : Int → Option Cl} (h : St w b base fa F n) (hk : Kept2 fa w w') : Kept w w' := by
  obtain ⟨A, hj, _⟩ := h
  exact hk.kept hj.rows
/-- The index and the reference's hold the same places. -/
def Sx (w : World) (bx bw B : Nat) (F : Int → Option Cl) (n : Nat) : Prop := ∃ fa R, St w bx B fa F n ∧ Rx w bw B R ∧ Rep F R ∧ R.length = n
def OutSt (bx bw B n : Nat) (w : World) (e : Ending) (w' : World) : Prop := e = .returned (.bool true) ∧ Below B w w' ∧ ∃ F' n', Sx w' bx bw B F' n' ∧ n' ≤ n + 1
theorem Sx.below {w w' : World} {bx bw B n : Nat} {F : Int → Option Cl} (h : Sx w bx bw B F n) (hb : Below w.heap.size w w') : Sx w' bx bw B F n := by
  obtain ⟨fa, R, h1, h2, h3, h4⟩ := h
  exact ⟨fa, R, h1.below hb, h2.below hb, h3, h4⟩
theorem Sx.ok {w : World} {bx bw B n : Nat} {F : Int → Option Cl} (h : Sx w bx bw B F n) : ∃ A, Ok A F n := by
  obtain ⟨fa, R, ⟨A, _, h1, _⟩, _⟩ := h
  exact ⟨A, h1⟩
/-- Both put. -/
theorem Sx.put {w : World} {bx bw B n : Nat} {F : Int → Option Cl} (h : Sx w bx bw B F n) (hn : n ≤ 1000) (hB : B ≤ w.heap.size) (id x y : Int) :
    Calls Try.prog 12 #[.pointer (some ⟨bx, 0, none⟩), .int .i64 id, C x y] w fun e w1 => e = .returned (.int .i64 (putE F n id (x, y))) ∧ Below B w w1 ∧ Kept w w1 ∧
      Calls Try.prog 20 #[.pointer (some ⟨bw, 0, none⟩), .int .i64 id, C x y] w1 fun e w2 => e = .returned (.int .i64 (putE F n id (x, y))) ∧ Below B w1 w2 ∧ KeptR w1 w2 ∧ Sx w2 bx bw B (putF' F n id (x, y)) (putN F n id (x, y)) := by
  obtain ⟨fa, R, h1, h2, h3, h4⟩ := h
  refine Calls.mono (h1.put hB id x y) ?_
  rintro e w1 ⟨rfl, hb, hk, fb, hs, _⟩
  have hkk := h1.keptOf hk
  refine ⟨rfl, hb, hkk, ?_⟩
  refine Calls.mono (rput_any bw B n R F id x y w1 (h2.kept hkk) h3 h4.symm (by omega) (Nat.le_trans hB hb.size)) ?_
  rintro e w2 ⟨rfl, hb2, hk2, R', hr', hp'⟩
  have hs2 := hs.keptR hk2
  refine ⟨rfl, hb2, hk2, fb, R', hs2, hr', hp', ?_⟩
  obtain ⟨A, _, hok, _⟩ := hs2
  exact hp'.len hok
/-- Both take. -/
theorem Sx.take {w : World} {bx bw B n : Nat} {F : Int → Option Cl} (h : Sx w bx bw B F n) (hn : n ≤ 1000) (hB : B ≤ w.heap.size) (id : Int) :
    Calls Try.prog 18 #[.pointer (some ⟨bx, 0, none⟩), .int .i64 id] w fun e w1 => e = .returned (.int .i64 (takeE F id)) ∧ Below B w w1 ∧ Kept w w1 ∧
      Calls Try.prog 21 #[.pointer (some ⟨bw, 0, none⟩), .int .i64 id] w1 fun e w2 => e = .returned (.int .i64 (takeE F id)) ∧ Below B w1 w2 ∧ KeptR w1 w2 ∧ Sx w2 bx bw B (remF F id) (offN F id n) := by
  obtain ⟨fa, R, h1, h2, h3, h4⟩ := h
  refine Calls.mono (h1.take hB id) ?_
  rintro e w1 ⟨rfl, hb, hk, fb, hs, _⟩
  have hkk := h1.keptOf hk
  refine ⟨rfl, hb, hkk, ?_⟩
  refine Calls.mono (rtake_any bw B n R F id w1 (h2.kept hkk) h3 h4.symm (by omega) (Nat.le_trans hB hb.size)) ?_
  rintro e w2 ⟨rfl, hb2, hk2, R', hr', hp'⟩
  have hs2 := hs.keptR hk2
  refine ⟨rfl, hb2, hk2, fb, R', hs2, hr', hp', ?_⟩
  obtain ⟨A, _, hok, _⟩ := hs2
  exact hp'.len hok
theorem Sx.where {w : World} {bx bw B n : Nat} {F : Int → Option Cl} (h : Sx w bx bw B F n) (hn : n ≤ 1000) (id : Int) :
    Calls Try.prog 14 #[.pointer (some ⟨bx, 0, none⟩), .int .i64 id] w (fun e w' => Out w (whV F id) e w') ∧ Calls Try.prog 22 #[.pointer (some ⟨bw, 0, none⟩), .int .i64 id] w (fun e w' => Out w (whV F id) e w') := by
  obtain ⟨fa, R, h1, h2, h3, h4⟩ := h
  exact ⟨h1.where id, rwhere_any bw B R F id w h2 h3 (by omega)⟩
theorem Sx.who {w : World} {bx bw B n : Nat} {F : Int → Option Cl} (h : Sx w bx bw B F n) (hn : n ≤ 1000) (x y : Int) :
    ∃ l, l.length ≤ 1000 ∧ Calls Try.prog 13 #[.pointer (some ⟨bx, 0, none⟩), C x y] w (fun e w' => OutI w l e w') ∧ ∀ w1, Below w.heap.size w w1 → Calls Try.prog 23 #[.pointer (some ⟨bw, 0, none⟩), C x y] w1 (fun e w' => OutI w1 l e w') := by
  obtain ⟨fa, R, h1, h2, h3, h4⟩ := h
  refine ⟨wl (x, y) R, by have := wl_len (x, y) R; omega, ?_, fun w1 hb => rwho_any bw B R x y w1 (h2.below hb) (by omega)⟩
  refine Calls.mono (h1.who x y) ?_
  rintro e w' ⟨l, hat, _, ho⟩
  rw [(wl_at h3 (x, y)).ext hat]; exact ho
theorem Sx.around {w : World} {bx bw B n : Nat} {F : Int → Option Cl} (h : Sx w bx bw B F n) (hn : n ≤ 1000) (x y r : Int) :
    Calls Try.prog 15 #[.pointer (some ⟨bx, 0, none⟩), C x y, .int .i64 r] w fun e w1 => ∃ l, l.length ≤ 1000 ∧ OutI w l e w1 ∧
      Calls Try.prog 24 #[.pointer (some ⟨bw, 0, none⟩), C x y, .int .i64 r] w1 fun e w2 => OutI w1 l e w2 := by
  obtain ⟨A, hok⟩ := h.ok
  obtain ⟨fa, R, h1, h2, h3, h4⟩ := h
  refine Calls.mono (h1.around x y r) ?_
  rintro e w1 ⟨s, hr, hl, ho⟩
  refine ⟨s.map Prod.fst, by rw [List.length_map]; omega, ho, ?_⟩
  obtain ⟨_, _, _, _, hb⟩ := ho
  refine Calls.mono (raround_any bw B R F x y r w1 (h2.below hb) h3 (by omega) ⟨A, n, hok, by omega⟩) ?_
  rintro e w2 ⟨t, hr2, _, ho2⟩
  rw [hr.ext hr2]; exact ho2
theorem Sx.closest {w : World} {bx bw B n : Nat} {F : Int → Option Cl} (h : Sx w bx bw B F n) (hn : n ≤ 1000) (x y r but : Int) :
    Calls Try.prog 19 #[.pointer (some ⟨bx, 0, none⟩), C x y, .int .i64 r, .int .i64 but] w fun e w1 => ∃ z th, e = .returned (.tuple #[.int .i64 z, .bool th]) ∧ Below w.heap.size w w1 ∧
      ∀ w2, Below w.heap.size w w2 → Calls Try.prog 25 #[.pointer (some ⟨bw, 0, none⟩), C x y, .int .i64 r, .int .i64 but] w2 fun e w3 => e = .returned (.tuple #[.int .i64 z, .bool th]) ∧ Below w2.heap.size w2 w3 := by
  obtain ⟨A, hok⟩ := h.ok
  obtain ⟨fa, R, h1, h2, h3, h4⟩ := h
  refine Calls.mono (closest_any bx B n fa F x y r but w h1) ?_
  rintro e w1 ⟨hb, z, th, rfl, hc⟩
  refine ⟨z, th, rfl, hb, fun w2 hb2 => ?_⟩
  refine Calls.mono (rclosest_any bw B R F x y r but w2 (h2.below hb2) h3 (by omega) ⟨A, n, hok, by omega⟩) ?_
  rintro e w3 ⟨hb3, z', th', rfl, hc'⟩
  refine ⟨?_, hb3⟩
  rcases hc with ⟨k1, k2, k3⟩ | ⟨q, k1, k2, k3, k4, k5⟩ <;> rcases hc' with ⟨m1, m2, m3⟩ | ⟨q', m1, m2, m3, m4, m5⟩
  · rw [k2, k3, m2, m3]
  · exact absurd (k1 q' m1) m2
  · exact absurd (m1 q k1) k2
  · have : q = q' := ltF_tri (m3 q k1 k2) (k3 q' m1 m2)
    rw [k4, k5, m4, m5, this]
/-- A world in which a call lies in block g. -/
structure Ko (g : Nat) (k id r x y : Int) where
  w : World
  a0 : w.cell? ⟨g, 0, none⟩ = some (.int .i64 k)
  a1 : w.cell? ⟨g, 1, none⟩ = some (.int .i64 id)
  a2 : w.cell? ⟨g, 2, none⟩ = some (.int .i64 r)
  a3 : w.cell? ⟨g, 3, none⟩ = some (.int .i64 x)
  a4 : w.cell? ⟨g, 4, none⟩ = some (.int .i64 y)
theorem ko {Z : World} {g : Nat} {k id r x y : Int} (h : Blk Z g [.int .i64 k, .int .i64 id, .int .i64 r, .int .i64 x, .int .i64 y] 34) : ∃ q : Ko g k id r x y, Z = q.w := ⟨⟨Z, h.cell 0, h.cell 1, h.cell 2, h.cell 3, h.cell 4⟩, rfl⟩
set_option maxRecDepth 20000 in
set_option maxHeartbeats 8000000 in
theorem step1 (bx bw B n : Nat) (F : Int → Option Cl) (id r x y : Int) (w : World) (h : Sx w bx bw B F n) (hn : n ≤ 1000) (hB : B ≤ w.heap.size) :
    Calls Try.prog 10 #[.pointer (some ⟨bx, 0, none⟩), .pointer (some ⟨bw, 0, none⟩), .agg #[.int .i64 1, .int .i64 id, .int .i64 r, .int .i64 x, .int .i64 y]] w fun e w' => OutSt bx bw B n w e w' := by
  obtain ⟨g, hg⟩ : ∃ g, g = w.heap.size := ⟨_, rfl⟩
  obtain ⟨W, hW⟩ : ∃ W, W = w.alloc (.cells #[.int .i64 1, .int .i64 id, .int .i64 r, .int .i64 x, .int .i64 y] 34) := ⟨_, rfl⟩
  have hb : Below w.heap.size w W := by rw [hW]; exact (Below.refl _ _).alloc (Nat.le_refl _) _
  have HG : Hid (Blk W g [.int .i64 1, .int .i64 id, .int .i64 r, .int .i64 x, .int .i64 y] 34) := by rw [hW]; exact Blk.new' _ _ _ _ hg
  have HX := hid (h.below hb)
  have HB := hid (hb.mono hB)
  have HBW : Hid (B ≤ W.heap.size) := Nat.le_trans hB hb.size
  have HNN := hid hn
  have a0 : W.cell? ⟨g, 0, none⟩ = some (.int .i64 1) := HG.out.cell 0
  obtain ⟨Q, hQ⟩ : ∃ Q, Q = OutSt bx bw B n w := ⟨_, rfl⟩
  have HQ := hid (fun (_ : Nat) => hQ)
  rw [← hQ]
  clear hQ hb h hn hB
  go_enter Try.func10, Try.ntmps10
  go_upto_region 1 with fail
  rw [← hW, ← hg]
  clear hW hg
  have h1 := (HX.out.below (Below.drewN (Below.refl W.heap.size W) 1)).put HNN.out HBW.out id x y
  unfold C at h1
  generalize hE : putE F n id (x, y) = E at h1
  have H1 := hid h1
  clear h1 hE
  have k0 : ∀ q : Ko g 1 id r x y, q.w.cell? ⟨g, 0, none⟩ = some (.int .i64 1) := fun q => q.a0
  have k1 : ∀ q : Ko g 1 id r x y, q.w.cell? ⟨g, 1, none⟩ = some (.int .i64 id) := fun q => q.a1
  have k2 : ∀ q : Ko g 1 id r x y, q.w.cell? ⟨g, 2, none⟩ = some (.int .i64 r) := fun q => q.a2
  have k3 : ∀ q : Ko g 1 id r x y, q.w.cell? ⟨g, 3, none⟩ = some (.int .i64 x) := fun q => q.a3
  have k4 : ∀ q : Ko g 1 id r x y, q.w.cell? ⟨g, 4, none⟩ = some (.int .i64 y) := fun q => q.a4
  go_upto_region 3 with fail
  refine wp_region_calm (S := fun w' => ∃ q : Ko g 1 id r x y, w' = q.w) ((0, false) :: (1, false) :: (2, false) :: (3, false) :: (4, false) :: (6, false) :: (7, false) :: (8, false) :: (9, false) :: (10, false) :: (5, true) :: (11, true) :: (12, false) :: (13, false) :: []) rfl (by kernel_rfl) (by kernel_rfl) (by kernel_rfl) (ko (show Blk W.drew g _ 34 from HG.out)) ?_
  clear a0
  iterate 10 (refine plan_take rfl (fun K hK => ?_); go_simp; (refine ⟨_, fun _ => rfl, hK _ ?_⟩); clear hK K)
  refine plan_turn rfl (fun K hK => ?_)
  go_simp
  refine Calls.mono H1.out ?_
  rintro _ Y1 ⟨rfl, hb1, hk1, h2⟩
  have HG1 := hid (hk1.blk HG.out (by decide) (by decide))
  have HB1 : Hid (Below B w Y1) := (Below.drewN HB.out 1).trans hb1
  have H2 := hid h2
  clear hb1 hk1 h2 H1
  refine hK _ _ (ko HG1.out) ?_
  clear hK K
  refine plan_turn rfl (fun K hK => ?_)
  go_simp
  refine Calls.mono H2.out ?_
  rintro _ Y2 ⟨rfl, hb2, hk2, h3⟩
  have HG2 := hid (hk2.blk HG1.out (by decide) (by decide))
  have HB2 : Hid (Below B w Y2) := HB1.out.trans hb2
  have H3 := hid h3
  clear hb2 hk2 h3 H2
  refine hK _ _ (ko HG2.out) ?_
  clear hK K
  iterate 2 (refine plan_take rfl (fun K hK => ?_); go_simp; (refine ⟨_, fun _ => rfl, hK _ ?_⟩); clear hK K)
  refine plan_done ⟨rfl, ?_⟩
  go_wp2
  rw [HQ.out 0]
  exact ⟨rfl, HB2.out, _, _, H3.out, putN_le _ _ _ _⟩
set_option maxRecDepth 20000 in
set_option maxHeartbeats 8000000 in
theorem step2 (bx bw B n : Nat) (F : Int → Option Cl) (id r x y : Int) (w : World) (h : Sx w bx bw B F n) (hn : n ≤ 1000) (hB : B ≤ w.heap.size) :
    Calls Try.prog 10 #[.pointer (some ⟨bx, 0, none⟩), .pointer (some ⟨bw, 0, none⟩), .agg #[.int .i64 2, .int .i64 id, .int .i64 r, .int .i64 x, .int .i64 y]] w fun e w' => OutSt bx bw B n w e w' := by
  obtain ⟨g, hg⟩ : ∃ g, g = w.heap.size := ⟨_, rfl⟩
  obtain ⟨W, hW⟩ : ∃ W, W = w.alloc (.cells #[.int .i64 2, .int .i64 id, .int .i64 r, .int .i64 x, .int .i64 y] 34) := ⟨_, rfl⟩
  have hb : Below w.heap.size w W := by rw [hW]; exact (Below.refl _ _).alloc (Nat.le_refl _) _
  have HG : Hid (Blk W g [.int .i64 2, .int .i64 id, .int .i64 r, .int .i64 x, .int .i64 y] 34) := by rw [hW]; exact Blk.new' _ _ _ _ hg
  have HX := hid (h.below hb)
  have HB := hid (hb.mono hB)
  have HBW : Hid (B ≤ W.heap.size) := Nat.le_trans hB hb.size
  have HNN := hid hn
  have a0 : W.cell? ⟨g, 0, none⟩ = some (.int .i64 2) := HG.out.cell 0
  obtain ⟨Q, hQ⟩ : ∃ Q, Q = OutSt bx bw B n w := ⟨_, rfl⟩
  have HQ := hid (fun (_ : Nat) => hQ)
  rw [← hQ]
  clear hQ hb h hn hB
  go_enter Try.func10, Try.ntmps10
  go_upto_region 1 with fail
  rw [← hW, ← hg]
  clear hW hg
  have h1 := (HX.out.below (Below.drewN (Below.refl W.heap.size W) 1)).take HNN.out HBW.out id
  generalize hE : takeE F id = E at h1
  have H1 := hid h1
  clear h1 hE
  have k0 : ∀ q : Ko g 2 id r x y, q.w.cell? ⟨g, 0, none⟩ = some (.int .i64 2) := fun q => q.a0
  have k1 : ∀ q : Ko g 2 id r x y, q.w.cell? ⟨g, 1, none⟩ = some (.int .i64 id) := fun q => q.a1
  have k2 : ∀ q : Ko g 2 id r x y, q.w.cell? ⟨g, 2, none⟩ = some (.int .i64 r) := fun q => q.a2
  have k3 : ∀ q : Ko g 2 id r x y, q.w.cell? ⟨g, 3, none⟩ = some (.int .i64 x) := fun q => q.a3
  have k4 : ∀ q : Ko g 2 id r x y, q.w.cell? ⟨g, 4, none⟩ = some (.int .i64 y) := fun q => q.a4
  go_upto_region 5 with fail
  refine wp_region_calm (S := fun w' => ∃ q : Ko g 2 id r x y, w' = q.w) ((0, false) :: (1, false) :: (2, false) :: (4, false) :: (5, false) :: (6, false) :: (3, true) :: (7, true) :: (8, false) :: (9, false) :: []) rfl (by kernel_rfl) (by kernel_rfl) (by kernel_rfl) (ko (show Blk W.drew g _ 34 from HG.out)) ?_
  clear a0
  iterate 6 (refine plan_take rfl (fun K hK => ?_); go_simp; (refine ⟨_, fun _ => rfl, hK _ ?_⟩); clear hK K)
  refine plan_turn rfl (fun K hK => ?_)
  go_simp
  refine Calls.mono H1.out ?_
  rintro _ Y1 ⟨rfl, hb1, hk1, h2⟩
  have HG1 := hid (hk1.blk HG.out (by decide) (by decide))
  have HB1 : Hid (Below B w Y1) := (Below.drewN HB.out 1).trans hb1
  have H2 := hid h2
  clear hb1 hk1 h2 H1
  refine hK _ _ (ko HG1.out) ?_
  clear hK K
  refine plan_turn rfl (fun K hK => ?_)
  go_simp
  refine Calls.mono H2.out ?_
  rintro _ Y2 ⟨rfl, hb2, hk2, h3⟩
  have HG2 := hid (hk2.blk HG1.out (by decide) (by decide))
  have HB2 : Hid (Below B w Y2) := HB1.out.trans hb2
  have H3 := hid h3
  clear hb2 hk2 h3 H2
  refine hK _ _ (ko HG2.out) ?_
  clear hK K
  iterate 2 (refine plan_take rfl (fun K hK => ?_); go_simp; (refine ⟨_, fun _ => rfl, hK _ ?_⟩); clear hK K)
  refine plan_done ⟨rfl, ?_⟩
  go_wp2
  rw [HQ.out 0]
  refine ⟨rfl, HB2.out, _, _, H3.out, ?_⟩
  unfold offN
  cases F id <;> simp only <;> omega
set_option maxRecDepth 20000 in
set_option maxHeartbeats 8000000 in
theorem step3 (bx bw B n : Nat) (F : Int → Option Cl) (id r x y : Int) (w : World) (h : Sx w bx bw B F n) (hn : n ≤ 1000) (hB : B ≤ w.heap.size) :
    Calls Try.prog 10 #[.pointer (some ⟨bx, 0, none⟩), .pointer (some ⟨bw, 0, none⟩), .agg #[.int .i64 3, .int .i64 id, .int .i64 r, .int .i64 x, .int .i64 y]] w fun e w' => OutSt bx bw B n w e w' := by
  obtain ⟨g, hg⟩ : ∃ g, g = w.heap.size := ⟨_, rfl⟩
  obtain ⟨W, hW⟩ : ∃ W, W = w.alloc (.cells #[.int .i64 3, .int .i64 id, .int .i64 r, .int .i64 x, .int .i64 y] 34) := ⟨_, rfl⟩
  have hb : Below w.heap.size w W := by rw [hW]; exact (Below.refl _ _).alloc (Nat.le_refl _) _
  have HG : Hid (Blk W g [.int .i64 3, .int .i64 id, .int .i64 r, .int .i64 x, .int .i64 y] 34) := by rw [hW]; exact Blk.new' _ _ _ _ hg
  have HX := hid (h.below hb)
  have HB := hid (hb.mono hB)
  have HBW : Hid (B ≤ W.heap.size) := Nat.le_trans hB hb.size
  have HNN := hid hn
  have a0 : W.cell? ⟨g, 0, none⟩ = some (.int .i64 3) := HG.out.cell 0
  obtain ⟨Q, hQ⟩ : ∃ Q, Q = OutSt bx bw B n w := ⟨_, rfl⟩
  have HQ := hid (fun (_ : Nat) => hQ)
  rw [← hQ]
  clear hQ hb h hn hB
  go_enter Try.func10, Try.ntmps10
  go_upto_region 1 with fail
  rw [← hW, ← hg]
  clear hW hg
  have a1 : W.cell? ⟨g, 1, none⟩ = some (.int .i64 id) := HG.out.cell 1
  obtain ⟨pp, qq, ok, hwv⟩ : ∃ pp qq ok, whV F id = .tuple #[.agg #[.int .i64 pp, .int .i64 qq], .bool ok] := by
    unfold whV
    cases F id with
    | none => exact ⟨0, 0, false, rfl⟩
    | some c => exact ⟨c.1, c.2, true, rfl⟩
  have h1 := (HX.out.where HNN.out id).1
  rw [hwv] at h1
  have h2 := fun W' (hb : Below W.heap.size W W') => ((HX.out.below hb).where HNN.out id).2
  simp only [hwv] at h2
  have H1 := hid h1
  have H2 := hid h2
  clear h1 h2 hwv
  go_upto_region 8 with (go_at_call 14; refine Calls.mono H1.out ?_; rintro _ Y1 ⟨rfl, hb1⟩)
  obtain ⟨Y2, hY2⟩ : ∃ Y2, Y2 = Y1.alloc (.cells #[.int .i64 pp, .int .i64 qq] 32) := ⟨_, rfl⟩
  obtain ⟨s1, hs1⟩ : ∃ s1, s1 = Y1.heap.size := ⟨_, rfl⟩
  have hb2 : Below W.heap.size W Y2 := by rw [hY2]; exact hb1.alloc hb1.size _
  have HS1 : Hid (Blk Y2 s1 [.int .i64 pp, .int .i64 qq] 32) := by rw [hY2]; exact Blk.new' _ _ _ _ hs1
  rw [← hY2, ← hs1]
  have HB2 := hid hb2
  have b1 : Y2.cell? ⟨g, 1, none⟩ = some (.int .i64 id) := (HG.out.below hb2 HG.out.lt).cell 1
  clear hb1 hb2 hY2 hs1 a0 a1 H1
  go_upto_region 9 with (go_at_call 22; refine Calls.mono (H2.out _ HB2.out) ?_; rintro _ Y3 ⟨rfl, hb3⟩)
  obtain ⟨Y4, hY4⟩ : ∃ Y4, Y4 = Y3.alloc (.cells #[.int .i64 pp, .int .i64 qq] 32) := ⟨_, rfl⟩
  obtain ⟨s2, hs2⟩ : ∃ s2, s2 = Y3.heap.size := ⟨_, rfl⟩
  have hb4 : Below Y2.heap.size Y2 Y4 := by rw [hY4]; exact hb3.alloc hb3.size _
  have HS2 : Hid (Blk Y4 s2 [.int .i64 pp, .int .i64 qq] 32) := by rw [hY4]; exact Blk.new' _ _ _ _ hs2
  have HS3 := hid (HS1.out.below hb4 HS1.out.lt)
  rw [← hY4, ← hs2]
  have HB4 := hid (HB2.out.trans (hb4.mono HB2.out.size))
  have f0 : Y4.cell? ⟨s1, 0, none⟩ = some (.int .i64 pp) := HS3.out.cell 0
  have f1 : Y4.cell? ⟨s1, 1, none⟩ = some (.int .i64 qq) := HS3.out.cell 1
  have f2 : Y4.cell? ⟨s2, 0, none⟩ = some (.int .i64 pp) := HS2.out.cell 0
  have f3 : Y4.cell? ⟨s2, 1, none⟩ = some (.int .i64 qq) := HS2.out.cell 1
  have hse := sameC_self pp qq
  clear hb3 hb4 hY4 hs2 b1
  go_wp2
  rw [HQ.out 0]
  exact ⟨rfl, HB.out.trans (HB4.out.mono HBW.out), _, _, HX.out.below HB4.out, by omega⟩
set_option maxRecDepth 20000 in
set_option maxHeartbeats 8000000 in
theorem step4 (bx bw B n : Nat) (F : Int → Option Cl) (id r x y : Int) (w : World) (h : Sx w bx bw B F n) (hn : n ≤ 1000) (hB : B ≤ w.heap.size) :
    Calls Try.prog 10 #[.pointer (some ⟨bx, 0, none⟩), .pointer (some ⟨bw, 0, none⟩), .agg #[.int .i64 4, .int .i64 id, .int .i64 r, .int .i64 x, .int .i64 y]] w fun e w' => OutSt bx bw B n w e w' := by
  obtain ⟨g, hg⟩ : ∃ g, g = w.heap.size := ⟨_, rfl⟩
  obtain ⟨W, hW⟩ : ∃ W, W = w.alloc (.cells #[.int .i64 4, .int .i64 id, .int .i64 r, .int .i64 x, .int .i64 y] 34) := ⟨_, rfl⟩
  have hb : Below w.heap.size w W := by rw [hW]; exact (Below.refl _ _).alloc (Nat.le_refl _) _
  have HG : Hid (Blk W g [.int .i64 4, .int .i64 id, .int .i64 r, .int .i64 x, .int .i64 y] 34) := by rw [hW]; exact Blk.new' _ _ _ _ hg
  have HX := hid (h.below hb)
  have HB := hid (hb.mono hB)
  have HBW : Hid (B ≤ W.heap.size) := Nat.le_trans hB hb.size
  have HNN := hid hn
  have a0 : W.cell? ⟨g, 0, none⟩ = some (.int .i64 4) := HG.out.cell 0
  obtain ⟨Q, hQ⟩ : ∃ Q, Q = OutSt bx bw B n w := ⟨_, rfl⟩
  have HQ := hid (fun (_ : Nat) => hQ)
  rw [← hQ]
  clear hQ hb h hn hB
  go_enter Try.func10, Try.ntmps10
  go_upto_region 1 with fail
  rw [← hW, ← hg]
  clear hW hg
  obtain ⟨l, hl, h1, h2⟩ := (HX.out.below (Below.drewN (Below.refl W.heap.size W) 1)).who HNN.out x y
  unfold C at h1 h2
  obtain ⟨N, hN⟩ : ∃ N, N = l.length := ⟨_, rfl⟩
  have HN6 : Hid (N ≤ 1000000) := hid (by omega)
  have HNE := hid (fun (_ : Nat) => hN)
  have H1 := hid h1
  have H2 := hid h2
  clear h1 h2 hl hN
  have k0 : ∀ q : Ko g 4 id r x y, q.w.cell? ⟨g, 0, none⟩ = some (.int .i64 4) := fun q => q.a0
  have k1 : ∀ q : Ko g 4 id r x y, q.w.cell? ⟨g, 1, none⟩ = some (.int .i64 id) := fun q => q.a1
  have k2 : ∀ q : Ko g 4 id r x y, q.w.cell? ⟨g, 2, none⟩ = some (.int .i64 r) := fun q => q.a2
  have k3 : ∀ q : Ko g 4 id r x y, q.w.cell? ⟨g, 3, none⟩ = some (.int .i64 x) := fun q => q.a3
  have k4 : ∀ q : Ko g 4 id r x y, q.w.cell? ⟨g, 4, none⟩ = some (.int .i64 y) := fun q => q.a4
  go_upto_region 11 with fail
  refine wp_region_calm (S := fun w' => ∃ q : Ko g 4 id r x y, w' = q.w) ((0, false) :: (1, false) :: (2, false) :: (4, false) :: (5, false) :: (6, false) :: (3, true) :: (7, true) :: (8, true) :: (9, false) :: []) rfl (by kernel_rfl) (by kernel_rfl) (by kernel_rfl) (ko (show Blk W.drew g _ 34 from HG.out)) ?_
  clear a0
  iterate 6 (refine plan_take rfl (fun K hK => ?_); go_simp; (refine ⟨_, fun _ => rfl, hK _ ?_⟩); clear hK K)
  refine plan_turn rfl (fun K hK => ?_)
  go_simp
  refine Calls.mono H1.out ?_
  rintro _ Y1 ⟨p1, c1, rfl, ho1, hb1⟩
  rw [← HNE.out 0] at ho1
  rw [← HNE.out 0]
  have HB1 : Hid (Below W.heap.size W Y1) := (Below.drewN (Below.refl W.heap.size W) 1).trans hb1
  have HG1 := hid (HG.out.below HB1.out HG.out.lt)
  have HO1 := hid ho1
  refine hK _ _ (ko HG1.out) ?_
  clear hK K
  refine plan_turn rfl (fun K hK => ?_)
  go_simp
  refine Calls.mono (H2.out Y1 hb1) ?_
  rintro _ Y2 ⟨p2, c2, rfl, ho2, hb2⟩
  rw [← HNE.out 0] at ho2
  rw [← HNE.out 0]
  have HB2 : Hid (Below W.heap.size W Y2) := HB1.out.trans (hb2.mono HB1.out.size)
  have HG2 := hid (HG.out.below HB2.out HG.out.lt)
  have HO2 := hid ho2
  clear ho1 ho2 hb1 H1 H2
  refine hK _ _ (ko HG2.out) ?_
  clear hK K
  refine plan_turn rfl (fun K hK => ?_)
  go_simp
  refine Calls.mono (sameInts_any l p1 p2 N c1 c2 Y2 (HO1.out.below hb2).ints HO2.out.ints HN6.out) ?_
  rintro _ Y3 ⟨rfl, hb3⟩
  have HB3 := hid (HB2.out.trans (hb3.mono HB2.out.size))
  refine hK _ _ (ko (HG2.out.below hb3 HG2.out.lt)) ?_
  clear hK K
  iterate 1 (refine plan_take rfl (fun K hK => ?_); go_simp; (refine ⟨_, fun _ => rfl, hK _ ?_⟩); clear hK K)
  refine plan_done ⟨rfl, ?_⟩
  clear hb2 hb3
  go_wp2
  rw [HQ.out 0]
  exact ⟨rfl, HB.out.trans (HB3.out.mono HBW.out), _, _, HX.out.below HB3.out, by omega⟩
set_option maxRecDepth 20000 in
set_option maxHeartbeats 8000000 in
theorem step5 (bx bw B n : Nat) (F : Int → Option Cl) (id r x y : Int) (w : World) (h : Sx w bx bw B F n) (hn : n ≤ 1000) (hB : B ≤ w.heap.size) :
    Calls Try.prog 10 #[.pointer (some ⟨bx, 0, none⟩), .pointer (some ⟨bw, 0, none⟩), .agg #[.int .i64 5, .int .i64 id, .int .i64 r, .int .i64 x, .int .i64 y]] w fun e w' => OutSt bx bw B n w e w' := by
  obtain ⟨g, hg⟩ : ∃ g, g = w.heap.size := ⟨_, rfl⟩
  obtain ⟨W, hW⟩ : ∃ W, W = w.alloc (.cells #[.int .i64 5, .int .i64 id, .int .i64 r, .int .i64 x, .int .i64 y] 34) := ⟨_, rfl⟩
  have hb : Below w.heap.size w W := by rw [hW]; exact (Below.refl _ _).alloc (Nat.le_refl _) _
  have HG : Hid (Blk W g [.int .i64 5, .int .i64 id, .int .i64 r, .int .i64 x, .int .i64 y] 34) := by rw [hW]; exact Blk.new' _ _ _ _ hg
  have HX := hid (h.below hb)
  have HB := hid (hb.mono hB)
  have HBW : Hid (B ≤ W.heap.size) := Nat.le_trans hB hb.size
  have HNN := hid hn
  have a0 : W.cell? ⟨g, 0, none⟩ = some (.int .i64 5) := HG.out.cell 0
  obtain ⟨Q, hQ⟩ : ∃ Q, Q = OutSt bx bw B n w := ⟨_, rfl⟩
  have HQ := hid (fun (_ : Nat) => hQ)
  rw [← hQ]
  clear hQ hb h hn hB
  go_enter Try.func10, Try.ntmps10
  go_upto_region 1 with fail
  rw [← hW, ← hg]
  clear hW hg
  have h1 := (HX.out.below (Below.drewN (Below.refl W.heap.size W) 1)).around HNN.out x y r
  unfold C at h1
  have H1 := hid h1
  clear h1
  have k0 : ∀ q : Ko g 5 id r x y, q.w.cell? ⟨g, 0, none⟩ = some (.int .i64 5) := fun q => q.a0
  have k1 : ∀ q : Ko g 5 id r x y, q.w.cell? ⟨g, 1, none⟩ = some (.int .i64 id) := fun q => q.a1
  have k2 : ∀ q : Ko g 5 id r x y, q.w.cell? ⟨g, 2, none⟩ = some (.int .i64 r) := fun q => q.a2
  have k3 : ∀ q : Ko g 5 id r x y, q.w.cell? ⟨g, 3, none⟩ = some (.int .i64 x) := fun q => q.a3
  have k4 : ∀ q : Ko g 5 id r x y, q.w.cell? ⟨g, 4, none⟩ = some (.int .i64 y) := fun q => q.a4
  go_upto_region 13 with fail
  refine wp_region_calm (S := fun w' => ∃ q : Ko g 5 id r x y, w' = q.w) ((0, false) :: (1, false) :: (2, false) :: (3, false) :: (4, false) :: (6, false) :: (7, false) :: (8, false) :: (9, false) :: (10, false) :: (5, true) :: (11, true) :: (12, true) :: (13, false) :: []) rfl (by kernel_rfl) (by kernel_rfl) (by kernel_rfl) (ko (show Blk W.drew g _ 34 from HG.out)) ?_
  clear a0
  iterate 10 (refine plan_take rfl (fun K hK => ?_); go_simp; (refine ⟨_, fun _ => rfl, hK _ ?_⟩); clear hK K)
  refine plan_turn rfl (fun K hK => ?_)
  go_simp
  refine Calls.mono H1.out ?_
  rintro _ Y1 ⟨l, hl, ⟨p1, c1, rfl, ho1, hb1⟩, h2⟩
  obtain ⟨N, hN⟩ : ∃ N, N = l.length := ⟨_, rfl⟩
  have HN6 : Hid (N ≤ 1000000) := hid (by omega)
  have HNE := hid (fun (_ : Nat) => hN)
  rw [← hN] at ho1
  rw [← hN]
  have HB1 : Hid (Below W.heap.size W Y1) := (Below.drewN (Below.refl W.heap.size W) 1).trans hb1
  have HG1 := hid (HG.out.below HB1.out HG.out.lt)
  have HO1 := hid ho1
  have H2 := hid h2
  clear ho1 hb1 H1 hl hN h2
  refine hK _ _ (ko HG1.out) ?_
  clear hK K
  refine plan_turn rfl (fun K hK => ?_)
  go_simp
  refine Calls.mono H2.out ?_
  rintro _ Y2 ⟨p2, c2, rfl, ho2, hb2⟩
  rw [← HNE.out 0] at ho2
  rw [← HNE.out 0]
  have HB2 : Hid (Below W.heap.size W Y2) := HB1.out.trans (hb2.mono HB1.out.size)
  have HG2 := hid (HG.out.below HB2.out HG.out.lt)
  have HO2 := hid ho2
  clear ho2 H2
  refine hK _ _ (ko HG2.out) ?_
  clear hK K
  refine plan_turn rfl (fun K hK => ?_)
  go_simp
  refine Calls.mono (sameInts_any l p1 p2 N c1 c2 Y2 (HO1.out.below hb2).ints HO2.out.ints HN6.out) ?_
  rintro _ Y3 ⟨rfl, hb3⟩
  have HB3 := hid (HB2.out.trans (hb3.mono HB2.out.size))
  refine hK _ _ (ko (HG2.out.below hb3 HG2.out.lt)) ?_
  clear hK K
  iterate 1 (refine plan_take rfl (fun K hK => ?_); go_simp; (refine ⟨_, fun _ => rfl, hK _ ?_⟩); clear hK K)
  refine plan_done ⟨rfl, ?_⟩
  clear hb2 hb3
  go_wp2
  rw [HQ.out 0]
  exact ⟨rfl, HB.out.trans (HB3.out.mono HBW.out), _, _, HX.out.below HB3.out, by omega⟩
set_option maxRecDepth 20000 in
set_option maxHeartbeats 8000000 in
theorem step6 (bx bw B n : Nat) (F : Int → Option Cl) (id r x y : Int) (w : World) (h : Sx w bx bw B F n) (hn : n ≤ 1000) (hB : B ≤ w.heap.size) :
    Calls Try.prog 10 #[.pointer (some ⟨bx, 0, none⟩), .pointer (some ⟨bw, 0, none⟩), .agg #[.int .i64 6, .int .i64 id, .int .i64 r, .int .i64 x, .int .i64 y]] w fun e w' => OutSt bx bw B n w e w' := by
  obtain ⟨g, hg⟩ : ∃ g, g = w.heap.size := ⟨_, rfl⟩
  obtain ⟨W, hW⟩ : ∃ W, W = w.alloc (.cells #[.int .i64 6, .int .i64 id, .int .i64 r, .int .i64 x, .int .i64 y] 34) := ⟨_, rfl⟩
  have hb : Below w.heap.size w W := by rw [hW]; exact (Below.refl _ _).alloc (Nat.le_refl _) _
  have HG : Hid (Blk W g [.int .i64 6, .int .i64 id, .int .i64 r, .int .i64 x, .int .i64 y] 34) := by rw [hW]; exact Blk.new' _ _ _ _ hg
  have HX := hid (h.below hb)
  have HB := hid (hb.mono hB)
  have HBW : Hid (B ≤ W.heap.size) := Nat.le_trans hB hb.size
  have HNN := hid hn
  have a0 : W.cell? ⟨g, 0, none⟩ = some (.int .i64 6) := HG.out.cell 0
  obtain ⟨Q, hQ⟩ : ∃ Q, Q = OutSt bx bw B n w := ⟨_, rfl⟩
  have HQ := hid (fun (_ : Nat) => hQ)
  rw [← hQ]
  clear hQ hb h hn hB
  go_enter Try.func10, Try.ntmps10
  go_upto_region 1 with fail
  rw [← hW, ← hg]
  clear hW hg
  have h1 := HX.out.closest HNN.out x y r id
  unfold C at h1
  have H1 := hid h1
  clear h1
  have a1 : W.cell? ⟨g, 1, none⟩ = some (.int .i64 id) := HG.out.cell 1
  have a2 : W.cell? ⟨g, 2, none⟩ = some (.int .i64 r) := HG.out.cell 2
  have a3 : W.cell? ⟨g, 3, none⟩ = some (.int .i64 x) := HG.out.cell 3
  have a4 : W.cell? ⟨g, 4, none⟩ = some (.int .i64 y) := HG.out.cell 4
  go_upto_region 16 with (go_at_call 19; refine Calls.mono H1.out ?_; rintro _ Y1 ⟨z, th, rfl, hb1, h2⟩)
  have hg1 := HG.out.below hb1 HG.out.lt
  have b1 : Y1.cell? ⟨g, 1, none⟩ = some (.int .i64 id) := hg1.cell 1
  have b2 : Y1.cell? ⟨g, 2, none⟩ = some (.int .i64 r) := hg1.cell 2
  have b3 : Y1.cell? ⟨g, 3, none⟩ = some (.int .i64 x) := hg1.cell 3
  have b4 : Y1.cell? ⟨g, 4, none⟩ = some (.int .i64 y) := hg1.cell 4
  have H2 := hid (h2 Y1 hb1)
  have HB1 := hid hb1
  clear a0 a1 a2 a3 a4 hg1 h2 hb1 H1
  go_upto_region 17 with (go_at_call 25; refine Calls.mono H2.out ?_; rintro _ Y2 ⟨rfl, hb2⟩)
  have HB2 := hid (HB1.out.trans (hb2.mono HB1.out.size))
  clear b1 b2 b3 b4 hb2 H2
  cases th <;>
    (go_wp2
     rw [HQ.out 0]
     exact ⟨rfl, HB.out.trans (HB2.out.mono HBW.out), _, _, HX.out.below HB2.out, by omega⟩)
set_option maxRecDepth 20000 in
set_option maxHeartbeats 8000000 in
theorem stepx (bx bw B n : Nat) (F : Int → Option Cl) (id r x y : Int) (k : Int) (w : World) (h : Sx w bx bw B F n) (hn : n ≤ 1000) (hB : B ≤ w.heap.size) (hk : k ≠ 1 ∧ k ≠ 2 ∧ k ≠ 3 ∧ k ≠ 4 ∧ k ≠ 5 ∧ k ≠ 6) :
    Calls Try.prog 10 #[.pointer (some ⟨bx, 0, none⟩), .pointer (some ⟨bw, 0, none⟩), .agg #[.int .i64 k, .int .i64 id, .int .i64 r, .int .i64 x, .int .i64 y]] w fun e w' => OutSt bx bw B n w e w' := by
  obtain ⟨g, hg⟩ : ∃ g, g = w.heap.size := ⟨_, rfl⟩
  obtain ⟨W, hW⟩ : ∃ W, W = w.alloc (.cells #[.int .i64 k, .int .i64 id, .int .i64 r, .int .i64 x, .int .i64 y] 34) := ⟨_, rfl⟩
  have hb : Below w.heap.size w W := by rw [hW]; exact (Below.refl _ _).alloc (Nat.le_refl _) _
  have HG : Hid (Blk W g [.int .i64 k, .int .i64 id, .int .i64 r, .int .i64 x, .int .i64 y] 34) := by rw [hW]; exact Blk.new' _ _ _ _ hg
  have HX := hid (h.below hb)
  have HB := hid (hb.mono hB)
  have HBW : Hid (B ≤ W.heap.size) := Nat.le_trans hB hb.size
  have HNN := hid hn
  have a0 : W.cell? ⟨g, 0, none⟩ = some (.int .i64 k) := HG.out.cell 0
  obtain ⟨Q, hQ⟩ : ∃ Q, Q = OutSt bx bw B n w := ⟨_, rfl⟩
  have HQ := hid (fun (_ : Nat) => hQ)
  rw [← hQ]
  clear hQ hb h hn hB
  go_enter Try.func10, Try.ntmps10
  go_upto_region 1 with fail
  rw [← hW, ← hg]
  clear hW hg
  have q1 : (k == 1) = false := by simp; omega
  have q2 : (k == 2) = false := by simp; omega
  have q3 : (k == 3) = false := by simp; omega
  have q4 : (k == 4) = false := by simp; omega
  have q5 : (k == 5) = false := by simp; omega
  have q6 : (k == 6) = false := by simp; omega
  clear hk
  go_wp2
  rw [HQ.out 0]
  exact ⟨rfl, HB.out, _, _, HX.out, by omega⟩
theorem step_any (bx bw B n : Nat) (F : Int → Option Cl) (k id r x y : Int) (w : World) (h : Sx w bx bw B F n) (hn : n ≤ 1000) (hB : B ≤ w.heap.size) :
    Calls Try.prog 10 #[.pointer (some ⟨bx, 0, none⟩), .pointer (some ⟨bw, 0, none⟩), .agg #[.int .i64 k, .int .i64 id, .int .i64 r, .int .i64 x, .int .i64 y]] w fun e w' => OutSt bx bw B n w e w' := by
  by_cases h1 : k = 1
  · subst h1; exact step1 bx bw B n F id r x y w h hn hB
  by_cases h2 : k = 2
  · subst h2; exact step2 bx bw B n F id r x y w h hn hB
  by_cases h3 : k = 3
  · subst h3; exact step3 bx bw B n F id r x y w h hn hB
  by_cases h4 : k = 4
  · subst h4; exact step4 bx bw B n F id r x y w h hn hB
  by_cases h5 : k = 5
  · subst h5; exact step5 bx bw B n F id r x y w h hn hB
  by_cases h6 : k = 6
  · subst h6; exact step6 bx bw B n F id r x y w h hn hB
  exact stepx bx bw B n F id r x y k w h hn hB ⟨h1, h2, h3, h4, h5, h6⟩
end Go.Proofs.Ytnilgnnlobiojaa
