/- What the reference's words answers: the first hash and the rounds' numbers. -/
import Derived.Test.YtpgckbjcacagdaaDoorAll
namespace Go.Proofs.YtpgckbjcacagdaaDoor
open Go.RowKit
attribute [local go_sem ↓] zv44 zv37
theorem wpL_build {P : Program} {ops : Array Oper} {rest : List Oper} {Q : Exit → Act → World → Prop} {a : Act} {w : World} {dd : Option Tmp} {tt : TypeId} {pos : String} {af : Array Edge} (ty : TypeId) (parts : Array (Nat × Operand)) (v : Value)
    (hb : (Instr.build ty (parts.map fun (i, x) => (i, a.eval x))).run P w = .ok v w)
    (h : wpList P ops Q rest (a.put dd v) w) : wpList P ops Q ({ dst := dd, op := .build ty parts, type := tt, pos := pos, after := af, guard := none } :: rest) a w := by
  refine wpList_plain rfl fun K hK => ?_
  unfold Oper.wp execOp
  simp only [Sem.run_bind, hb, Result.andThen_ok, Sem.run_pure]
  exact hK _ _ h
/-- A function that hands two arrays back. -/
theorem results_arrays {P : Program} {fn : Func} {p q : Tmp} {ty ty' : TypeId} (h : fn.results = #[.cell p ty, .cell q ty']) {tmps : Array Value} {w : World} {b b' : Nat} {l l' : List Value} {t t' : TypeId} {d d' : TypeDesc}
    (hp : tmps.getD p undef = .pointer (some ⟨b, 0, none⟩)) (hq : tmps.getD q undef = .pointer (some ⟨b', 0, none⟩)) (hb : Blk w b l t) (hb' : Blk w b' l' t')
    (hu : P.underlying ty = some d) (hd : d.isRow = true) (hi : (P.info? ty).map (·.size) = some l.length) (hu' : P.underlying ty' = some d') (hd' : d'.isRow = true) (hi' : (P.info? ty').map (·.size) = some l'.length) :
    (results fn tmps).run P w = .ok (.tuple #[.agg l.toArray, .agg l'.toArray]) w := by
  have hl := run_loadVar_mid (P := P) w b 0 ty l d hb.range hu hd hi
  have hl' := run_loadVar_mid (P := P) w b' 0 ty' l' d' hb'.range hu' hd' hi'
  have ha : (asAddr (tmps[p]?.getD undef)).run P w = .ok ⟨b, 0, none⟩ w := by
    have : tmps[p]?.getD undef = .pointer (some ⟨b, 0, none⟩) := by simpa using hp
    rw [this]; rfl
  have ha' : (asAddr (tmps[q]?.getD undef)).run P w = .ok ⟨b', 0, none⟩ w := by
    have : tmps[q]?.getD undef = .pointer (some ⟨b', 0, none⟩) := by simpa using hq
    rw [this]; rfl
  simp only [results, h]
  simp [Sem.run_bind, Result.andThen, ha, hl, ha', hl']
set_option maxRecDepth 100000 in
set_option maxHeartbeats 1000000 in
theorem words24 (w : World) : Calls Tryd.prog 24 #[] w fun e w' => e = .returned (.tuple #[.agg (H0.list.map U).toArray, .agg (KW.map U).toArray]) ∧ Below w.heap.size w w' := by
  obtain ⟨A, hA⟩ : ∃ A : List Value, A = H0.list.map U := ⟨_, rfl⟩
  obtain ⟨C, hC⟩ : ∃ C : List Value, C = KW.map U := ⟨_, rfl⟩
  have hAl : A.length = 8 := by rw [hA]; rfl
  have hCl : C.length = 64 := by rw [hC]; rfl
  have HA : Hid (∀ v, v = Value.agg (H0.list.map U).toArray → v = .agg A.toArray) := by rintro v rfl; rw [hA]
  have HB : Hid (∀ X, X = H0.list.map U → X = A) := by rintro X rfl; rw [hA]
  have HC : Hid (∀ X, X = KW.map U → X = C) := by rintro X rfl; rw [hC]
  have hoA : Hid (∀ v ∈ A, v.oneCell' = true) := by rw [hA]; exact mapU_one _
  have hoC : Hid (∀ v ∈ C, v.oneCell' = true) := by rw [hC]; exact mapU_one _
  clear hA hC
  have hi37 : (Tryd.prog.info? 37).map (·.size) = some A.length := by rw [hAl]; exact size37
  have hi44 : (Tryd.prog.info? 44).map (·.size) = some C.length := by rw [hCl]; exact size44
  have hb0 : Blk ((w.alloc (.cells (zU 8).toArray 37)).alloc (.cells (zU 64).toArray 44)) w.heap.size (zU 8) 37 := (Blk.new _ _ _).alloc _
  have hb1 : Blk ((w.alloc (.cells (zU 8).toArray 37)).alloc (.cells (zU 64).toArray 44)) (w.heap.size + 1) (zU 64) 44 := Blk.new' _ _ _ _ (by simp)
  have hbe : Below w.heap.size w ((w.alloc (.cells (zU 8).toArray 37)).alloc (.cells (zU 64).toArray 44)) := ((Below.refl _ _).alloc (Nat.le_refl _) _).alloc (by simp) _
  have ht0 := hb0.there 0 A.length (by rw [hAl, zU_length]; omega)
  have hb0' := Blk.setCells A 0 hb0 (by rw [hAl, zU_length]; omega)
  rw [show over (zU 8) 0 A = A by simp [over, zU, hAl]] at hb0'
  have hb1' := hb1.setCells_ne w.heap.size (by omega) 0 A
  have hbe' := Below.setCells hbe (b := w.heap.size) (Nat.le_refl _) 0 A
  have ht1 := hb1'.there 0 C.length (by rw [hCl, zU_length]; omega)
  have hb1'' := Blk.setCells C 0 hb1' (by rw [hCl, zU_length]; omega)
  rw [show over (zU 64) 0 C = C by simp [over, zU, hCl]] at hb1''
  have hb0'' := hb0'.setCells_ne (w.heap.size + 1) (by omega) 0 C
  have hbe'' := Below.setCells hbe' (b := w.heap.size + 1) (by omega) 0 C
  go_enter Tryd.func24, Tryd.ntmps24
  go_wp2_with (first
    | ((with_reducible refine wpL_build 44 _ (.agg C.toArray) ?_ ?_); (rw [← HC.out _ rfl]; kernel_rfl); (simp only [Act.put, List.setIfInBounds_toArray, List.set_cons_zero, List.set_cons_succ]))
    | ((with_reducible refine wpL_build 37 _ (.agg A.toArray) ?_ ?_); (rw [← HB.out _ rfl]; kernel_rfl); (simp only [Act.put, List.setIfInBounds_toArray, List.set_cons_zero, List.set_cons_succ]))
    | ((with_reducible refine wpL_store 37 w.heap.size 0 A ?_ ?_ ht0 hi37 hoA.out ?_); (rfl); (rfl); (simp only [Act.put]))
    | ((with_reducible refine wpL_store 44 (w.heap.size + 1) 0 C ?_ ?_ ht1 hi44 hoC.out ?_); (rfl); (rfl); (simp only [Act.put])))
  exact bodyPost_ret (results_arrays Tryd.results24 rfl rfl hb0'' hb1'' Tryd.underlying37 rfl hi37 Tryd.underlying44 rfl hi44) rfl ⟨by rw [HB.out _ rfl, HC.out _ rfl], hbe''⟩
end Go.Proofs.YtpgckbjcacagdaaDoor
