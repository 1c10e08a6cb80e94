/- Insert. -/
import Derived.Test.YtdagkeklfhlcnaaTb
namespace Go.Proofs.Ytdagkeklfhlcnaa
open Go.RowKit
theorem size32 : (Try.prog.info? 32).map (·.size) = some 11 := by kernel_rfl
theorem eleven {e : List Int} (h : e.length = 11) : ∃ a b c d f g i j k m n, e = [a, b, c, d, f, g, i, j, k, m, n] := by
  match e, h with
  | [a, b, c, d, f, g, i, j, k, m, n], _ => exact ⟨a, b, c, d, f, g, i, j, k, m, n, rfl⟩
theorem wrap_in (n : Int) (h : -9223372036854775808 ≤ n ∧ n ≤ 9223372036854775807) : wrap64 n = n := by unfold wrap64; omega
theorem Only.drewn (b : Nat) (w : World) : Only b w w.drew := ⟨rfl, rfl, rfl, Nat.le_refl _, fun _ _ _ => rfl⟩
/-- The entity is put behind the others. -/
theorem Tb.put {w : World} {b : Nat} {l : List (List Int)} {past : Int} (h : Tb w b l past) (hl : l.length < 40) (e : List Int) (he : e.length = 11) (p : Int) :
    w.there b (l.length * 11) 11 ∧ Tb (((w.setCells b (l.length * 11) (e.map I)).setCell ⟨b, 440, none⟩ (I ((l.length : Int) + 1))).setCell ⟨b, 441, none⟩ (I p)) b (l ++ [e]) p ∧ (w.setCells b (l.length * 11) (e.map I)).cell? ⟨b, 440, none⟩ = some (.int .i64 (l.length : Int)) ∧ (w.setCells b (l.length * 11) (e.map I)).cell? ⟨b, 441, none⟩ = some (.int .i64 past) ∧ (∀ j, (w.setCells b (l.length * 11) (e.map I)).frozen? ⟨b, j, none⟩ = false) := by
  obtain ⟨rest, h, h1, h2, h3⟩ := h
  match rest, h2, h3, h with
  | [], _, h3, _ => simp at h3; omega
  | r :: rest, h2, h3, h =>
    have h2' := Elev.cons.1 h2
    have hlen := tbL_length h1 h2 h3 (l.length : Int) past
    have hfl := fl_length h1
    have hset := h.setCells (e.map I) (l.length * 11) (by rw [List.length_map, he, hlen]; omega)
    have e1 : over (tbL l (r :: rest) (l.length : Int) past) (l.length * 11) (e.map I) = tbL (l ++ [e]) rest (l.length : Int) past := by
      have e2 : (fl l ++ (fl (r :: rest) ++ [I (l.length : Int), I past])).drop ((fl l).length + 11) = fl rest ++ [I (l.length : Int), I past] := by
        rw [fl_cons, List.drop_append, List.drop_eq_nil_of_le (by omega), List.nil_append, Nat.add_sub_cancel_left, List.append_assoc, List.drop_append, List.drop_eq_nil_of_le (by rw [List.length_map]; omega), List.nil_append, List.length_map, h2'.1, Nat.sub_self, List.drop_zero]
      have e3 : (fl l ++ (fl (r :: rest) ++ [I (l.length : Int), I past])).take (fl l).length = fl l := List.take_left' rfl
      unfold over tbL
      rw [← hfl, List.length_map, he, e2, e3]
      simp [fl]
    rw [e1] at hset
    have h5 : Elev (l ++ [e]) := Elev.append.2 ⟨h1, Elev.cons.2 ⟨he, fun _ h => by cases h⟩⟩
    have h6 : (l ++ [e]).length + rest.length = 40 := by simp at h3 ⊢; omega
    have hc := tbL_count h5 h2'.2 h6 (l.length : Int) past
    refine ⟨h.there _ _ (by rw [hlen]; omega), ⟨rest, ?_, h5, h2'.2, h6⟩, (hset.cell 440).trans hc.1, (hset.cell 441).trans hc.2, fun j => hset.frozen j⟩
    have h7 := (hset.set 440 (I ((l.length : Int) + 1))).set 441 (I p)
    rw [(tbL_set h5 h2'.2 h6 (l.length : Int) past _).1, (tbL_set h5 h2'.2 h6 _ past _).2] at h7
    have h8 : (((l ++ [e]).length : Nat) : Int) = (l.length : Int) + 1 := by simp
    rw [h8]; exact h7
set_option maxHeartbeats 2000000 in
theorem insNil_any (e : List Int) (he : e.length = 11) (w : World) : Calls Try.prog 14 #[.pointer none, E e] w fun r w' => Out w (.tuple #[.int .i64 0, .int .i64 7]) r w' := by
  obtain ⟨z0, z1, z2, z3, z4, z5, z6, z7, z8, z9, z10, rfl⟩ := eleven he
  unfold E Out
  simp only [List.map_cons, List.map_nil, I]
  go_enter Try.func14, Try.ntmps14
  go_wp2
  go_ret2
  exact ⟨rfl, (Below.refl _ _).alloc (Nat.le_refl _) _⟩
/-- What an Insert that is refused leaves. -/
def OutFull (w : World) (r : Ending) (w' : World) : Prop := r = .returned (.tuple #[.int .i64 0, .int .i64 6]) ∧ Below w.heap.size w w'
/-- What an Insert leaves. -/
def OutIns (w : World) (b : Nat) (l : List (List Int)) (past : Int) (e : List Int) (r : Ending) (w' : World) : Prop := r = .returned (.tuple #[.int .i64 (past + 1), .int .i64 0]) ∧ Tb w' b (l ++ [e.set 0 (past + 1)]) (past + 1) ∧ Only b w w'
set_option maxHeartbeats 2000000 in
theorem insFull_any (b : Nat) (l : List (List Int)) (past : Int) (e : List Int) (he : e.length = 11) (w : World) (h : Tb w b l past) (hp : 0 ≤ past ∧ past < 2147483647) (hf : l.length = 40 ∨ past = 2147483646) : Calls Try.prog 14 #[P b, E e] w fun r w' => OutFull w r w' := by
  obtain ⟨z0, z1, z2, z3, z4, z5, z6, z7, z8, z9, z10, rfl⟩ := eleven he
  have hn := h.few
  have h11 : Hid (∀ W, Tb W b l past → Calls Try.prog 11 #[P b] W fun e w' => e = .returned (.int .i64 (wrap64 (past + 1))) ∧ w' = W) := fun W h => next_any b l past W h
  have HT := hid (fun W (hb : Below w.heap.size w W) => h.below hb h.lt)
  have hw : wrap64 (past + 1) = past + 1 := wrap_in _ (by omega)
  rw [hw] at h11
  obtain ⟨W, hW⟩ : ∃ W, W = w.alloc (.cells #[Value.int .i64 z0, .int .i64 z1, .int .i64 z2, .int .i64 z3, .int .i64 z4, .int .i64 z5, .int .i64 z6, .int .i64 z7, .int .i64 z8, .int .i64 z9, .int .i64 z10] 32) := ⟨_, rfl⟩
  have HBW : Hid (Below w.heap.size w W) := by rw [hW]; exact (Below.refl _ _).alloc (Nat.le_refl _) _
  obtain ⟨c0, c1, c2, c3⟩ := (HT.out W HBW.out).count
  have HTW := hid (HT.out W HBW.out)
  clear hw h HT
  generalize l.length = n at *
  unfold E OutFull
  unfold P at *
  simp only [List.map_cons, List.map_nil, I]
  rcases hf with rfl | rfl
  · go_enter Try.func14, Try.ntmps14
    go_upto_region 1 with fail
    rw [← hW]
    clear hW
    go_wp2
    go_ret2
    exact ⟨rfl, HBW.out⟩
  · by_cases h40 : n = 40
    · subst h40
      go_enter Try.func14, Try.ntmps14
      go_upto_region 1 with fail
      rw [← hW]
      clear hW
      go_wp2
      go_ret2
      exact ⟨rfl, HBW.out⟩
    · have h40' : ((n : Int) == 40) = false := by simp; omega
      go_enter Try.func14, Try.ntmps14
      go_upto_region 1 with fail
      rw [← hW]
      clear hW
      go_wp2_with fail
      refine Calls.mono (h11.out _ HTW.out) ?_
      rintro e w1 ⟨rfl, rfl⟩
      go_wp2
      go_ret2
      exact ⟨rfl, HBW.out⟩
set_option maxHeartbeats 4000000 in
theorem ins_any (b : Nat) (l : List (List Int)) (past : Int) (e : List Int) (he : e.length = 11) (w : World) (h : Tb w b l past) (hp : 0 ≤ past ∧ past < 2147483646) (hl : l.length < 40) : Calls Try.prog 14 #[P b, E e] w fun r w' => OutIns w b l past e r w' := by
  obtain ⟨z0, z1, z2, z3, z4, z5, z6, z7, z8, z9, z10, rfl⟩ := eleven he
  have h11 : Hid (∀ W, Tb W b l past → Calls Try.prog 11 #[P b] W fun e w' => e = .returned (.int .i64 (past + 1)) ∧ w' = W) := fun W h => by
    have := next_any b l past W h
    rwa [wrap_in _ (by omega)] at this
  have HT := hid (fun W (hb : Below w.heap.size w W) => h.below hb h.lt)
  have HLT := hid h.lt
  obtain ⟨W, hW⟩ : ∃ W, W = w.alloc (.cells #[Value.int .i64 z0, .int .i64 z1, .int .i64 z2, .int .i64 z3, .int .i64 z4, .int .i64 z5, .int .i64 z6, .int .i64 z7, .int .i64 z8, .int .i64 z9, .int .i64 z10] 32) := ⟨_, rfl⟩
  obtain ⟨g, hg⟩ : ∃ g, g = w.heap.size := ⟨_, rfl⟩
  have HBW : Hid (Below w.heap.size w W) := by rw [hW]; exact (Below.refl _ _).alloc (Nat.le_refl _) _
  have HGW : Hid (Blk W g [.int .i64 z0, .int .i64 z1, .int .i64 z2, .int .i64 z3, .int .i64 z4, .int .i64 z5, .int .i64 z6, .int .i64 z7, .int .i64 z8, .int .i64 z9, .int .i64 z10] 32) := by rw [hW, hg]; exact Blk.new _ _ _
  obtain ⟨c0, c1, c2, c3⟩ := (HT.out W HBW.out).count
  have HTW := hid (HT.out W HBW.out)
  have g0 : W.cell? ⟨g, 0, none⟩ = some (.int .i64 z0) := HGW.out.cell 0
  have gf := HGW.out.frozen 0
  have h40' : ((l.length : Int) == 40) = false := by simp; omega
  have hp' : (past + 1 == 2147483647) = false := by simp; omega
  have hpw : past + 1 ≤ 9223372036854775807 := by omega
  have hpw0 : 0 ≤ past := by omega
  unfold E OutIns
  unfold P at *
  simp only [List.map_cons, List.map_nil, I]
  go_enter Try.func14, Try.ntmps14
  go_upto_region 1 with fail
  rw [← hW, ← hg]
  have HG := hid (fun (_ : Nat) => hg)
  clear hW hg h HT
  go_wp2_with fail
  refine Calls.mono (h11.out _ HTW.out) ?_
  rintro e w1 ⟨rfl, rfl⟩
  go_wp2_with fail
  refine Calls.mono (h11.out _ HTW.out) ?_
  rintro e w2 ⟨rfl, rfl⟩
  go_upto_region 6 with fail
  obtain ⟨W3, hW3⟩ : ∃ W3, W3 = w2.setCell ⟨g, 0, none⟩ (.int .i64 (past + 1)) := ⟨_, rfl⟩
  rw [← hW3]
  have HNE : Hid (b ≠ g) := by have := HG.out 0; have := HLT.out; show b ≠ g; omega
  have HT3 : Hid (Tb W3 b l past) := by rw [hW3]; exact HTW.out.keep (Below.heap_setCell _ _ _ _ HNE.out)
  have HG3 : Hid (Blk W3 g [.int .i64 (past + 1), .int .i64 z1, .int .i64 z2, .int .i64 z3, .int .i64 z4, .int .i64 z5, .int .i64 z6, .int .i64 z7, .int .i64 z8, .int .i64 z9, .int .i64 z10] 32) := by rw [hW3]; exact HGW.out.set 0 _
  have HO3 : Hid (Only b w W3) := by
    rw [hW3]
    refine ⟨HBW.out.os, HBW.out.tape, HBW.out.output, by simpa using HBW.out.size, fun k hk hl => ?_⟩
    rw [Below.heap_setCell _ _ _ _ (by have := HG.out 0; show k ≠ g; omega)]
    exact HBW.out.block k hl
  clear hW3 c0 c1 c2 c3 g0 gf HGW HTW HBW
  obtain ⟨c0, c1, c2, c3⟩ := HT3.out.count
  have g0 : W3.cell? ⟨g, 0, none⟩ = some (.int .i64 (past + 1)) := HG3.out.cell 0
  have g1 : W3.cell? ⟨g, 1, none⟩ = some (.int .i64 z1) := HG3.out.cell 1
  have g2 : W3.cell? ⟨g, 2, none⟩ = some (.int .i64 z2) := HG3.out.cell 2
  have g3 : W3.cell? ⟨g, 3, none⟩ = some (.int .i64 z3) := HG3.out.cell 3
  have g4 : W3.cell? ⟨g, 4, none⟩ = some (.int .i64 z4) := HG3.out.cell 4
  have g5 : W3.cell? ⟨g, 5, none⟩ = some (.int .i64 z5) := HG3.out.cell 5
  have g6 : W3.cell? ⟨g, 6, none⟩ = some (.int .i64 z6) := HG3.out.cell 6
  have g7 : W3.cell? ⟨g, 7, none⟩ = some (.int .i64 z7) := HG3.out.cell 7
  have g8 : W3.cell? ⟨g, 8, none⟩ = some (.int .i64 z8) := HG3.out.cell 8
  have g9 : W3.cell? ⟨g, 9, none⟩ = some (.int .i64 z9) := HG3.out.cell 9
  have g10 : W3.cell? ⟨g, 10, none⟩ = some (.int .i64 z10) := HG3.out.cell 10
  have hl' : (l.length : Int) < 40 := by omega
  have hl0 : (0 : Int) ≤ (l.length : Int) := by omega
  go_still_tail 8, (by kernel_rfl)
  obtain ⟨es, hes⟩ : ∃ es, es = [past + 1, z1, z2, z3, z4, z5, z6, z7, z8, z9, z10] := ⟨_, rfl⟩
  obtain ⟨cs, hcs⟩ : ∃ cs, cs = es.map I := ⟨_, rfl⟩
  have HPUT := hid ((HT3.out.keep (w' := W3.drew) rfl).put hl es (by rw [hes]; rfl) (past + 1))
  rw [← hcs] at HPUT
  have HP1 : Hid (W3.drew.there b (l.length * 11) cs.length) := by
    have : cs.length = 11 := by rw [hcs, hes]; rfl
    rw [this]; exact HPUT.out.1
  have hone : Hid (∀ v ∈ cs, v.oneCell' = true) := by rw [hcs]; exact ent_one es
  have hsz : Hid ((Try.prog.info? 32).map (·.size) = some cs.length) := by
    have : cs.length = 11 := by rw [hcs, hes]; rfl
    rw [this]; exact size32
  have hval : Value.agg #[.int .i64 (past + 1), .int .i64 z1, .int .i64 z2, .int .i64 z3, .int .i64 z4, .int .i64 z5, .int .i64 z6, .int .i64 z7, .int .i64 z8, .int .i64 z9, .int .i64 z10] = .agg cs.toArray := by rw [hcs, hes]; rfl
  rw [hval]
  have HES := hid (fun (_ : Nat) => hes)
  clear hval hcs hes c0 c1 c2 c3 g1 g2 g3 g4 g5 g6 g7 g8 g9 g10
  go_upto_region 7 with (first
    | ((with_reducible refine wpL_store 32 b (l.length * 11) cs ?_ ?_ ?_ hsz.out hone.out ?_); (rfl); (rfl); (exact HP1.out); (simp only [Act.put])))
  have g0' : (W3.drew.setCells b (l.length * 11) cs).cell? ⟨g, 0, none⟩ = some (.int .i64 (past + 1)) := (HG3.out.drew.setCells_ne b (fun e => HNE.out e.symm) _ cs).cell 0
  have HO4 : Hid (Only b w (W3.drew.setCells b (l.length * 11) cs)) := (HO3.out.trans (Only.drewn b W3)).trans (Only.sets b _ W3.drew cs)
  obtain ⟨-, p2, p3, p4, p5⟩ := HPUT.out
  have p50 := p5 440
  have p51 := p5 441
  have HP2 := hid p2
  have hgb : g ≠ b := fun e => HNE.out e.symm
  clear p2 p5 HPUT HP1 hone hsz HO3 HT3 HG3 g0
  generalize W3.drew.setCells b (l.length * 11) cs = W4 at *
  have hn1 : (l.length : Int) + 1 ≤ 9223372036854775807 := by omega
  go_wp2
  go_ret2
  refine ⟨rfl, ?_, (HO4.out.trans (Only.set b 440 W4 _)).trans (Only.set b 441 _ _)⟩
  have e : [z0, z1, z2, z3, z4, z5, z6, z7, z8, z9, z10].set 0 (past + 1) = es := by rw [HES.out 0]; rfl
  rw [e]
  exact HP2.out
end Go.Proofs.Ytdagkeklfhlcnaa
