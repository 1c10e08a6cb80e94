/- A player of its own memory: apart 23, the reference's copied 25, the law's 13. -/
import Derived.Test.YtjkcmedmojidgaaOwn
import Derived.Deep.RegionWith
import Derived.Deep.DeepCutAuto
namespace Go.Proofs.Ytjkcmedmojidgaa
open Go.RowKit
theorem size36 : (Try.prog.info? 36).map (·.size) = some 4 := by kernel_rfl
theorem results_cell {P : Program} {fn : Func} {p : Tmp} {ty : TypeId} (h : fn.results = #[.cell p ty]) {tmps : Array Value} {w : World} {b : Nat} {l : List Value} {t : TypeId} {d : TypeDesc}
    (hp : tmps.getD p undef = .pointer (some ⟨b, 0, none⟩)) (hb : Blk w b l t)
    (hu : P.underlying ty = some d) (hd : d.isRow = true) (hi : (P.info? ty).map (·.size) = some l.length) :
    (results fn tmps).run P w = .ok (.agg l.toArray) w := by
  have hl := run_loadVar_mid (P := P) w b 0 ty l d hb.range hu hd hi
  have ha : (asAddr (tmps[p]?.getD undef)).run P w = .ok ⟨b, 0, none⟩ w := by
    have : tmps[p]?.getD undef = .pointer (some ⟨b, 0, none⟩) := by simpa using hp
    rw [this]; rfl
  simp only [results, h]
  simp [Sem.run_bind, Result.andThen, ha, hl]
theorem results_cell_tmp {P : Program} {fn : Func} {p q : Tmp} {ty : TypeId} (h : fn.results = #[.cell p ty, .tmp q]) {tmps : Array Value} {w : World} {b : Nat} {l : List Value} {t : TypeId} {d : TypeDesc} {v : Value}
    (hp : tmps.getD p undef = .pointer (some ⟨b, 0, none⟩)) (hq : tmps.getD q undef = v) (hb : Blk w b l t)
    (hu : P.underlying ty = some d) (hd : d.isRow = true) (hi : (P.info? ty).map (·.size) = some l.length) :
    (results fn tmps).run P w = .ok (.tuple #[.agg l.toArray, v]) w := by
  have hl := run_loadVar_mid (P := P) w b 0 ty l d hb.range hu hd hi
  have ha : (asAddr (tmps[p]?.getD undef)).run P w = .ok ⟨b, 0, none⟩ w := by
    have : tmps[p]?.getD undef = .pointer (some ⟨b, 0, none⟩) := by simpa using hp
    rw [this]; rfl
  have hv : tmps[q]?.getD undef = v := by simpa using hq
  simp only [results, h]
  simp [Sem.run_bind, Result.andThen, ha, hl, hv]
/-- v is a slice of the integers xs, whose block is base or later. -/
def Rw (w : World) (base : Nat) (v : Value) (xs : List Int) : Prop := IntsAt w v xs ∧ ∀ p n c, v = .slice (some p) n c → base ≤ p.block ∧ p.block < w.heap.size
theorem Rw.keep {w w' : World} {base : Nat} {v : Value} {xs : List Int} (h : Rw w base v xs) (hs : w.heap.size ≤ w'.heap.size) (hb : ∀ k, base ≤ k → k < w.heap.size → w'.heap[k]? = w.heap[k]?) : Rw w' base v xs := by
  obtain ⟨⟨p, cap, rfl, hc, hz, h⟩, h2⟩ := h
  refine ⟨⟨p, cap, rfl, hc, hz, fun hn => ?_⟩, fun q n c e => ⟨(h2 q n c e).1, Nat.lt_of_lt_of_le (h2 q n c e).2 hs⟩⟩
  obtain ⟨sb, so, rfl, hcell⟩ := h hn
  obtain ⟨h3, h4⟩ := h2 _ _ _ rfl
  exact ⟨sb, so, rfl, fun i hi => by rw [← hcell i hi]; simp only [World.cell?]; rw [hb sb h3 h4]⟩
theorem Rw.below {w w' : World} {base : Nat} {v : Value} {xs : List Int} (h : Rw w base v xs) (hb : Below w.heap.size w w') : Rw w' base v xs := h.keep hb.size fun k _ hk => hb.block k hk
theorem Rw.set {w : World} {base : Nat} {v : Value} {xs : List Int} (h : Rw w base v xs) (a : Addr) (u : Value) (ha : a.block < base) : Rw (w.setCell a u) base v xs := h.keep (by simp) fun k hk _ => Below.heap_setCell _ _ _ _ (by omega)
theorem OwnI.rw {w : World} {base : Nat} {v : Value} {xs : List Int} (h : OwnI w base v xs) : Rw w base v xs := ⟨h.ints, fun p n c e => by subst e; exact h.block p.block rfl⟩
theorem Rw.mono {w : World} {base B : Nat} {v : Value} {xs : List Int} (h : Rw w B v xs) (hb : base ≤ B) : Rw w base v xs := ⟨h.1, fun p n c e => ⟨Nat.le_trans hb (h.2 p n c e).1, (h.2 p n c e).2⟩⟩
theorem OwnI.set {w : World} {base : Nat} {v : Value} {xs : List Int} (h : OwnI w base v xs) (a : Addr) (u : Value) (ha : a.block < base) : OwnI (w.setCell a u) base v xs := h.stay fun k hk => Below.heap_setCell _ _ _ _ (by have := (h.block k hk).1; omega)
/-- Two blocks of a player each: what was handed in, and what is answered; and a row of the call's own. -/
structure St (w : World) (W : World) (g : Nat) (l m : List Value) (v : Value) (xs : List Int) : Prop where
  a : Blk W g l 36
  c : Blk W (g + 1) m 36
  own : OwnI W (g + 2) v xs
  be : Below w.heap.size w W
  eg : g = w.heap.size
theorem St.seta {w W : World} {g : Nat} {l m : List Value} {v : Value} {xs : List Int} (h : St w W g l m v xs) (j : Nat) (u : Value) : St w (W.setCell ⟨g, j, none⟩ u) g (l.set j u) m v xs :=
  ⟨h.a.set j u, h.c.set_ne _ (by simp) u, h.own.set _ u (by simp), h.be.trans ⟨rfl, rfl, rfl, by simp, fun k hk => Below.heap_setCell _ _ _ _ (by have := h.eg; simp; omega)⟩, h.eg⟩
theorem St.setc {w W : World} {g : Nat} {l m : List Value} {v : Value} {xs : List Int} (h : St w W g l m v xs) (j : Nat) (u : Value) : St w (W.setCell ⟨g + 1, j, none⟩ u) g l (m.set j u) v xs :=
  ⟨h.a.set_ne _ (by simp) u, h.c.set j u, h.own.set _ u (by simp), h.be.trans ⟨rfl, rfl, rfl, by simp, fun k hk => Below.heap_setCell _ _ _ _ (by have := h.eg; simp; omega)⟩, h.eg⟩
theorem St.below {w W W' : World} {g : Nat} {l m : List Value} {v : Value} {xs : List Int} (h : St w W g l m v xs) (hb : Below W.heap.size W W') : St w W' g l m v xs :=
  ⟨h.a.below hb h.a.lt, h.c.below hb h.c.lt, h.own.below hb, h.be.trans (hb.mono h.be.size), h.eg⟩
theorem St.drew {w W : World} {g : Nat} {l m : List Value} {v : Value} {xs : List Int} (h : St w W g l m v xs) : St w W.drew g l m v xs :=
  h.below ⟨rfl, rfl, rfl, Nat.le_refl _, fun _ _ => rfl⟩
/-- Another row in the place of the one. -/
theorem St.other {w W W' : World} {g : Nat} {l m : List Value} {v u : Value} {xs ys : List Int} (h : St w W g l m v xs) (hb : Below (g + 2) W W') (ho : OwnI W' (g + 2) u ys) : St w W' g l m u ys :=
  ⟨h.a.below hb (by omega), h.c.below hb (by omega), ho, h.be.trans (hb.mono (by have := h.eg; omega)), h.eg⟩
/-- What apart answers: the integers in a row of its own. -/
def OutA (w : World) (o : Int) (b : Bool) (xs : List Int) (l : Int) (N : Nat) (e : Ending) (w' : World) : Prop := ∃ p cap, e = .returned (.agg #[.int .i64 o, .bool b, .slice p N cap, .int .i64 l]) ∧ OwnI w' w.heap.size (.slice p N cap) xs ∧ Below w.heap.size w w'
set_option maxRecDepth 20000 in
set_option maxHeartbeats 2000000 in
theorem apart_any (o : Int) (b : Bool) (xs : List Int) (l : Int) (p : Option Addr) (cap N : Nat) (w : World) (hI : IntsAt w (.slice p N cap) xs) (hM : N = xs.length) (hs : N ≤ 1000000) :
    Calls Try.prog 23 #[.agg #[.int .i64 o, .bool b, .slice p N cap, .int .i64 l]] w fun e w' => OutA w o b xs l N e w' := by
  have h27 : Hid (∀ W, IntsAt W (.slice p N cap) xs → Calls Try.prog 27 #[.slice p N cap] W fun e w' => ∃ p cap, e = .returned (.slice p N cap) ∧ OwnI w' W.heap.size (.slice p N cap) xs ∧ Below W.heap.size W w') := fun W h => by
    have := clone_any xs p N cap W h hM hs
    unfold OutI at this
    rwa [← hM] at this
  unfold OutA
  obtain ⟨W, hW⟩ : ∃ W, W = (w.alloc (.cells #[.int .i64 o, .bool b, .slice p N cap, .int .i64 l] 36)).alloc (.cells #[.int .i64 0, .bool false, .slice none 0 0, .int .i64 0] 36) := ⟨_, rfl⟩
  obtain ⟨g, hg⟩ : ∃ g, g = w.heap.size := ⟨_, rfl⟩
  have HBW : Hid (Below w.heap.size w W) := by rw [hW]; exact ((Below.refl _ _).alloc (Nat.le_refl _) _).alloc (by simp) _
  have HSZ : Hid (W.heap.size = g + 2) := by rw [hW, hg]; simp [Hid]
  have HTA : Hid (Blk W g [.int .i64 o, .bool b, .slice p N cap, .int .i64 l] 36) := by rw [hW]; exact (Blk.new' _ _ _ _ hg).alloc _
  have HTC : Hid (Blk W (g + 1) [.int .i64 0, .bool false, .slice none 0 0, .int .i64 0] 36) := by rw [hW]; exact Blk.new' _ _ _ _ (by rw [hg]; simp)
  have HI := hid (hI.below HBW.out)
  have HG := hid (fun (_ : Nat) => hg)
  clear hI hM
  go_enter Try.func23, Try.ntmps23
  go_upto_region 1 with fail
  rw [← hW, ← hg]
  have c2 : W.cell? ⟨g, 2, none⟩ = some (.slice p N cap) := HTA.out.cell 2
  clear hW hg
  go_wp2_with fail
  refine Calls.mono (h27.out _ HI.out) ?_
  rintro e w1 ⟨p', cap', rfl, ho, hb⟩
  have HS1 : Hid (St w w1 g [.int .i64 o, .bool b, .slice p N cap, .int .i64 l] [.int .i64 0, .bool false, .slice none 0 0, .int .i64 0] (.slice p' N cap') xs) :=
    ⟨HTA.out.below hb HTA.out.lt, HTC.out.below hb HTC.out.lt, by rw [HSZ.out] at ho; exact ho, HBW.out.trans (hb.mono HBW.out.size), HG.out 0⟩
  have d2 : w1.cell? ⟨g, 2, none⟩ = some (.slice p N cap) := HS1.out.a.cell 2
  have d0 : w1.cell? ⟨g, 0, none⟩ = some (.int .i64 o) := HS1.out.a.cell 0
  have d1 : w1.cell? ⟨g, 1, none⟩ = some (.bool b) := HS1.out.a.cell 1
  have d3 : w1.cell? ⟨g, 3, none⟩ = some (.int .i64 l) := HS1.out.a.cell 3
  have e0 : w1.cell? ⟨g + 1, 0, none⟩ = some (.int .i64 0) := HS1.out.c.cell 0
  have e1 : w1.cell? ⟨g + 1, 1, none⟩ = some (.bool false) := HS1.out.c.cell 1
  have e2 : w1.cell? ⟨g + 1, 2, none⟩ = some (.slice none 0 0) := HS1.out.c.cell 2
  have e3 : w1.cell? ⟨g + 1, 3, none⟩ = some (.int .i64 0) := HS1.out.c.cell 3
  have f0 := HS1.out.a.frozen
  have f1 := HS1.out.c.frozen
  clear c2 ho hb
  go_wp2
  have HS2 := ((((HS1.out.seta 2 (.slice p' N cap')).setc 0 (.int .i64 o)).setc 1 (.bool b)).setc 2 (.slice p' N cap')).setc 3 (.int .i64 l)
  exact bodyPost_ret (results_cell Try.results23 rfl HS2.c Try.underlying36 rfl size36) rfl ⟨p', cap', rfl, HS2.own.mono (by have := HS2.eg; omega), HS2.be⟩
end Go.Proofs.Ytjkcmedmojidgaa
