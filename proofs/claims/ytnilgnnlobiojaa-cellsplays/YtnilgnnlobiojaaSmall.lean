/- New 9, isMeasured 26, Len 11, Where 14. -/
import Derived.Test.YtnilgnnlobiojaaPst
namespace Go.Proofs.Ytnilgnnlobiojaa
open Go.RowKit
theorem size32 : (Try.prog.info? 32).map (·.size) = some 2 := by kernel_rfl
theorem results_cell_tmp {P : Program} {fn : Func} {p q : Tmp} {ty : TypeId} (h : fn.results = #[.cell p ty, .tmp q]) {tmps : Array Value} {w : World} {b : Nat} {l : List Value} {t : TypeId} {d : TypeDesc} {v : Value}
    (hp : tmps.getD p undef = .pointer (some ⟨b, 0, none⟩)) (hq : tmps.getD q undef = v) (hb : Blk w b l t)
    (hu : P.underlying ty = some d) (hd : d.isRow = true) (hi : (P.info? ty).map (·.size) = some l.length) :
    (results fn tmps).run P w = .ok (.tuple #[.agg l.toArray, v]) w := by
  have hl := run_loadVar_mid (P := P) w b 0 ty l d hb.range hu hd hi
  have ha : (asAddr (tmps[p]?.getD undef)).run P w = .ok ⟨b, 0, none⟩ w := by
    have : tmps[p]?.getD undef = .pointer (some ⟨b, 0, none⟩) := by simpa using hp
    rw [this]; rfl
  have hv : tmps[q]?.getD undef = v := by simpa using hq
  simp only [results, h]
  simp [Sem.run_bind, Result.andThen, ha, hl, hv]
theorem zero32 (w : World) : (zeroValue 32).run Try.prog w = .ok (C 0 0) w := Try.zeroValue32 w
theorem new_any (w : World) : Calls Try.prog 9 #[] w fun e w' => e = .returned (.pointer (some ⟨w.heap.size, 0, none⟩)) ∧ w' = w.alloc (.cells #[.map none, .map none] 55) := by
  go_enter Try.func9, Try.ntmps9
  go_wp2
  go_ret
  exact ⟨rfl, rfl⟩
theorem measured_any (x y : Int) (w : World) : Calls Try.prog 26 #[C x y] w fun e w' => Out w (.bool (measC (x, y))) e w' := by
  obtain ⟨W, hW⟩ : ∃ W, W = w.alloc (.cells #[.int .i64 x, .int .i64 y] 32) := ⟨_, rfl⟩
  obtain ⟨g, hg⟩ : ∃ g, g = w.heap.size := ⟨_, rfl⟩
  have HB0 : Hid (Below w.heap.size w W) := by rw [hW]; exact (Below.refl _ _).alloc (Nat.le_refl _) _
  have hG0 : Blk W g [.int .i64 x, .int .i64 y] 32 := by rw [hW]; exact Blk.new' _ _ _ _ hg
  have c0 : W.cell? ⟨g, 0, none⟩ = some (.int .i64 x) := hG0.cell 0
  have c1 : W.cell? ⟨g, 1, none⟩ = some (.int .i64 y) := hG0.cell 1
  clear hG0
  unfold C
  obtain ⟨M, hM⟩ : ∃ M, M = measC (x, y) := ⟨_, rfl⟩
  rw [← hM]
  have HM := hid (fun (_ : Nat) => hM)
  clear hM
  unfold Out
  have HW := hid (fun (_ : Nat) => hW)
  have HG := hid (fun (_ : Nat) => hg)
  clear hW hg
  go_enter Try.func26, Try.ntmps26
  go_upto_region 1 with fail
  rw [← HW.out 0, ← HG.out 0]
  clear HW HG
  go_wp2
  · go_ret
    exact ⟨by rw [HM.out 0]; unfold measC; simp; omega, HB0.out⟩
  · go_ret
    exact ⟨by rw [HM.out 0]; unfold measC; simp; omega, HB0.out⟩
  · go_ret
    exact ⟨by rw [HM.out 0]; unfold measC; simp; omega, HB0.out⟩
  · go_ret
    exact ⟨by rw [HM.out 0]; unfold measC; simp; omega, HB0.out⟩
/-- A map keyed by cells, or none. -/
def FMapO (w : World) (mo : Option Nat) (f : Cl → Option Value) : Prop := match mo with
  | none => ∀ c, f c = none
  | some b => FMap w b f
def IMapO (w : World) (mo : Option Nat) (f : Int → Option Value) (n : Nat) : Prop := match mo with
  | none => (∀ i, f i = none) ∧ n = 0
  | some b => IMap w b f n
theorem FMapO.look {w : World} {mo : Option Nat} {f : Cl → Option Value} (h : FMapO w mo f) (x y : Int) (ok : Bool) :
    (Instr.lookup 52 (.map mo) (.agg #[.int .i64 x, .int .i64 y]) ok).run Try.prog w = .ok (if ok then .tuple #[(f (x, y)).getD (.slice none 0 0), .bool (f (x, y)).isSome] else (f (x, y)).getD (.slice none 0 0)) w := by
  cases mo with
  | some b => exact FMap.look h 52 40 Try.underlying52 _ (zero40 w) x y ok
  | none =>
    have hf : f (x, y) = none := h (x, y)
    have hfind := run_findC (x, y) w []
    have hc := run_checkC true x y w
    unfold C at hc hfind
    rw [List.map_nil] at hfind
    unfold Instr.lookup
    rw [Sem.run_bind, run_underlying Try.underlying52, Result.andThen_ok]
    simp only [Sem.run_pure, Result.andThen_ok, Sem.run_bind]
    rw [show (#[] : Array MapEntry).isEmpty = true from rfl, hc, Result.andThen_ok, hfind, Result.andThen_ok, hf]
    have hz := zero40 w
    simp [findC, hz]
theorem IMapO.look {w : World} {mo : Option Nat} {f : Int → Option Value} {n : Nat} (h : IMapO w mo f n) (x : Int) (ok : Bool) :
    (Instr.lookup 53 (.map mo) (.int .i64 x) ok).run Try.prog w = .ok (if ok then .tuple #[(f x).getD (C 0 0), .bool (f x).isSome] else (f x).getD (C 0 0)) w := by
  cases mo with
  | some b => exact IMap.look h 53 32 Try.underlying53 _ (zero32 w) x ok
  | none =>
    have hf : f x = none := h.1 x
    have hfind := run_findI x w []
    have hc := run_checkI true x w
    rw [List.map_nil] at hfind
    unfold Instr.lookup
    rw [Sem.run_bind, run_underlying Try.underlying53, Result.andThen_ok]
    simp only [Sem.run_pure, Result.andThen_ok, Sem.run_bind]
    rw [show (#[] : Array MapEntry).isEmpty = true from rfl, hc, Result.andThen_ok, hfind, Result.andThen_ok, hf]
    have hz := zero32 w
    simp [findI, hz]
theorem IMapO.len {w : World} {mo : Option Nat} {f : Int → Option Value} {n : Nat} (h : IMapO w mo f n) (t : TypeId) :
    (Builtin.len_ #[53] t #[.map mo]).run Try.prog w = .ok (.int .i64 n) w := by
  cases mo with
  | none =>
    obtain ⟨_, rfl⟩ := h
    rfl
  | some b =>
    obtain ⟨es, ck, l, h0, h1, h2, _⟩ := h
    have hobj : (getObj b).run Try.prog w = .ok (.map es ck) w := MapKept.run_getObj_map h1
    have hs : es.size = n := by rw [← Array.length_toList, h2, List.length_map, h0]
    subst hs
    simp [Builtin.len_, Sem.run_bind, hobj, Result.andThen]
    rfl
/-- The law at a look-up in a map of cells, or in none, that asks whether the key is there. -/
theorem wpL_lookO {ops : Array Oper} {rest : List Oper} {Q : Exit → Act → World → Prop} {a : Act} {w : World} {dd : Option Tmp} {m k : Operand} {tt : TypeId} {pos : String} {af : Array Edge} (mo : Option Nat) (f : Int → Option Value) (x : Int)
    (hm : a.eval m = .map mo) (hk : a.eval k = .int .i64 x) {n : Nat} (hf : IMapO w mo f n)
    (h : wpList Try.prog ops Q rest (a.put dd (.tuple #[(f x).getD (C 0 0), .bool (f x).isSome])) w) :
    wpList Try.prog ops Q ({ dst := dd, op := .lookup 53 m k true, type := tt, pos := pos, after := af, guard := .none } :: rest) a w := by
  refine wpList_plain rfl fun K hK => ?_
  unfold Oper.wp execOp
  have hl := hf.look x true
  simp only [hm, hk, Sem.run_bind, hl, Result.andThen_ok, Sem.run_pure]
  exact hK _ _ h
theorem wpL_lenO {ops : Array Oper} {rest : List Oper} {Q : Exit → Act → World → Prop} {a : Act} {w : World} {dd : Option Tmp} {m : Operand} {tt : TypeId} {pos : String} {af : Array Edge} (mo : Option Nat) (f : Int → Option Value)
    (hm : a.eval m = .map mo) {n : Nat} (hf : IMapO w mo f n)
    (h : wpList Try.prog ops Q rest (a.put dd (.int .i64 n)) w) :
    wpList Try.prog ops Q ({ dst := dd, op := Op.call { callee := Callee.builtin Builtin.len, args := #[m], argTypes := #[53] }, type := tt, pos := pos, after := af, guard := .none } :: rest) a w := by
  refine wpList_plain rfl fun K hK => ?_
  unfold Oper.wp
  have hr := hf.len tt
  simp [execOp, resolve, invoke, builtin, hm, hr, Result.andThen]
  exact hK _ _ h
/-- An index, read: its maps may lack. -/
structure Iy (w : World) (b base : Nat) (oa ow : Option Nat) (fa : Cl → Option Value) (A : Cl → List Int) (F : Int → Option Cl) (n : Nat) : Prop where
  blk : Blk w b [.map oa, .map ow] 55
  fm : FMapO w oa fa
  im : IMapO w ow (fun i => (F i).map cellV) n
  row : ∀ c, ∃ p cap, (fa c).getD (.slice none 0 0) = .slice p (A c).length cap ∧ OwnI w base (.slice p (A c).length cap) (A c)
theorem Ix.iy {w : World} {b base n : Nat} {A : Cl → List Int} {F : Int → Option Cl} (h : Ix w b base A F n) : ∃ oa ow fa, Iy w b base oa ow fa A F n := by
  rcases h with ⟨h1, h2, h3, h4, h5⟩ | ⟨ma, mw, fa, h⟩
  · exact ⟨none, none, fun _ => none, h1, fun _ => rfl, ⟨fun i => by show (F i).map cellV = none; rw [h4 i]; rfl, h5⟩, fun c => ⟨none, 0, by rw [h3 c]; rfl, by rw [h3 c]; exact OwnI.nil w base⟩⟩
  · exact ⟨some ma, some mw, fa, h.blk, h.fm, h.im, fun c => by obtain ⟨p, cap, h1, h2, _⟩ := h.row c; exact ⟨p, cap, h1, h2⟩⟩
theorem len_nil (w : World) : Calls Try.prog 11 #[.pointer none] w fun e w' => e = .returned (.int .i64 0) ∧ w' = w := by
  go_enter Try.func11, Try.ntmps11
  go_wp2
  go_ret
  exact ⟨rfl, rfl⟩
theorem len_any (b base n : Nat) (A : Cl → List Int) (F : Int → Option Cl) (w : World) (h : Ix w b base A F n) : Calls Try.prog 11 #[.pointer (some ⟨b, 0, none⟩)] w fun e w' => e = .returned (.int .i64 n) ∧ w' = w := by
  obtain ⟨oa, ow, fa, hy⟩ := h.iy
  have c1 : w.cell? ⟨b, 1, none⟩ = some (.map ow) := hy.blk.cell 1
  have HM := hid hy.im
  clear h hy
  go_enter Try.func11, Try.ntmps11
  go_wp2_with (at_len; (with_reducible refine wpL_lenO ow _ ?_ HM.out ?_); (rfl))
  go_ret
  exact ⟨rfl, rfl⟩
/-- Where an ID is, as Where answers it. -/
def whV (F : Int → Option Cl) (i : Int) : Value := .tuple #[((F i).map cellV).getD (C 0 0), .bool (F i).isSome]
theorem where_nil (i : Int) (w : World) : Calls Try.prog 14 #[.pointer none, .int .i64 i] w fun e w' => Out w (.tuple #[C 0 0, .bool false]) e w' := by
  go_enter Try.func14, Try.ntmps14
  go_wp2
  exact bodyPost_ret (results_cell_tmp Try.results14 rfl rfl (Blk.new w [.int .i64 0, .int .i64 0] 32) Try.underlying32 rfl size32) rfl ⟨rfl, (Below.refl _ _).alloc (Nat.le_refl _) _⟩
theorem where_any (b base n : Nat) (A : Cl → List Int) (F : Int → Option Cl) (i : Int) (w : World) (h : Ix w b base A F n) : Calls Try.prog 14 #[.pointer (some ⟨b, 0, none⟩), .int .i64 i] w fun e w' => Out w (whV F i) e w' := by
  obtain ⟨oa, ow, fa, hy⟩ := h.iy
  obtain ⟨W, hW⟩ : ∃ W, W = w.alloc (.cells #[.int .i64 0, .int .i64 0] 32) := ⟨_, rfl⟩
  obtain ⟨g, hg⟩ : ∃ g, g = w.heap.size := ⟨_, rfl⟩
  have hB0 : Below w.heap.size w W := by rw [hW]; exact (Below.refl _ _).alloc (Nat.le_refl _) _
  have hG0 : Blk W g [.int .i64 0, .int .i64 0] 32 := by rw [hW]; exact Blk.new' _ _ _ _ hg
  have HG0 := hid hG0
  have HB0 := hid hB0
  have c1 : W.cell? ⟨b, 1, none⟩ = some (.map ow) := (hy.blk.below hB0 hy.blk.lt).cell 1
  have HM : Hid (IMapO W ow (fun i => (F i).map cellV) n) := by
    have h1 := hy.im
    cases ow with
    | none => exact h1
    | some m => exact IMap.keep h1 (hB0.block m (IMap.lt h1))
  obtain ⟨p, q, hpq⟩ : ∃ p q, ((F i).map cellV).getD (C 0 0) = .agg #[.int .i64 p, .int .i64 q] := by
    cases F i with
    | none => exact ⟨0, 0, rfl⟩
    | some c => exact ⟨c.1, c.2, rfl⟩
  obtain ⟨ok, hok⟩ : ∃ ok, ok = (F i).isSome := ⟨_, rfl⟩
  have hom : ((F i).map cellV).isSome = ok := by rw [hok]; cases F i <;> rfl
  have HPQ := hid hpq
  have HOM := hid hom
  have hv : whV F i = .tuple #[.agg #[.int .i64 p, .int .i64 q], .bool ok] := by unfold whV; rw [hpq, hok]
  rw [hv]
  clear hv hpq hom hok hB0 hG0 hy h
  unfold Out
  go_enter Try.func14, Try.ntmps14
  go_upto_region 1 with fail
  rw [← hW, ← hg]
  clear hW
  have HGE := hid (fun (_ : Nat) => hg)
  clear hg
  obtain ⟨V, hV⟩ : ∃ V, V = W.alloc (.cells #[.int .i64 p, .int .i64 q] 32) := ⟨_, rfl⟩
  obtain ⟨s, hs⟩ : ∃ s, s = W.heap.size := ⟨_, rfl⟩
  have HV1 : Hid (Blk V s [.int .i64 p, .int .i64 q] 32) := by rw [hV]; exact Blk.new' _ _ _ _ hs
  have HVG : Hid (Blk V g [.int .i64 0, .int .i64 0] 32) := by rw [hV]; exact HG0.out.alloc _
  have HBV : Hid (Below w.heap.size w V) := by rw [hV]; exact HB0.out.alloc HB0.out.size _
  have HVE := hid (fun (_ : Nat) => hV)
  have HSE := hid (fun (_ : Nat) => hs)
  clear hV hs
  go_upto_region 4 with (at_lookup; (with_reducible refine wpL_lookO ow _ i ?_ ?_ HM.out ?_); (rfl); (rfl); (rw [HPQ.out, HOM.out]))
  rw [← HVE.out 0, ← HSE.out 0]
  have v0 : V.cell? ⟨s, 0, none⟩ = some (.int .i64 p) := HV1.out.cell 0
  have v1 : V.cell? ⟨s, 1, none⟩ = some (.int .i64 q) := HV1.out.cell 1
  have g0 : V.cell? ⟨g, 0, none⟩ = some (.int .i64 0) := HVG.out.cell 0
  have f0 : V.frozen? ⟨g, 0, none⟩ = false := HVG.out.frozen 0
  have g1 : (V.setCell ⟨g, 0, none⟩ (.int .i64 p)).cell? ⟨g, 1, none⟩ = some (.int .i64 0) := (HVG.out.set 0 _).cell 1
  have f1 : (V.setCell ⟨g, 0, none⟩ (.int .i64 p)).frozen? ⟨g, 1, none⟩ = false := (HVG.out.set 0 _).frozen 1
  clear HVE HSE HM c1
  go_wp2
  exact bodyPost_ret (results_cell_tmp Try.results14 rfl rfl ((HVG.out.set 0 (.int .i64 p)).set 1 (.int .i64 q)) Try.underlying32 rfl size32) rfl ⟨rfl, (HBV.out.setCell (by rw [HGE.out 0]; exact Nat.le_refl _) _).setCell (by rw [HGE.out 0]; exact Nat.le_refl _) _⟩
end Go.Proofs.Ytnilgnnlobiojaa
