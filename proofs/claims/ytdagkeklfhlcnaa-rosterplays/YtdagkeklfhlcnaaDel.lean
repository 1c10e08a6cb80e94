/- slices.Delete of one entity of a table, and Remove. -/
import Derived.Test.YtdagkeklfhlcnaaFind
import Derived.ArgAppend
import Derived.OwnWalk
namespace Go.Proofs.Ytdagkeklfhlcnaa
open Go.RowKit
theorem over_mid (A Y tl V : List Value) (h : V.length ≤ Y.length) : over (A ++ (Y ++ tl)) A.length V = A ++ (V ++ (Y.drop V.length ++ tl)) := by
  unfold over
  rw [List.take_left' rfl, List.drop_append, List.drop_eq_nil_of_le (by omega), List.nil_append, Nat.add_sub_cancel_left, List.drop_append]
  have : V.length - Y.length = 0 := by omega
  rw [this, List.drop_zero, List.append_assoc]
theorem info32 : (Try.prog.info? 32).map (fun i => (i.zero, i.size, i.bytes)) = some (some (.agg #[.int .i64 0, .int .i64 0, .int .i64 0, .int .i64 0, .int .i64 0, .int .i64 0, .int .i64 0, .int .i64 0, .int .i64 0, .int .i64 0, .int .i64 0]), 11, 88) := by kernel_rfl
/-- append within the capacity, as the walk meets it. -/
theorem wpL_room {ops : Array Oper} {rest : List Oper} {Q : Exit → Act → World → Prop} {a : Act} {w : World} {dd : Option Tmp} {s x : Operand} {tt : TypeId} {pos : String} {af : Array Edge} (b n cap : Nat) (ad : Addr) (m c : Nat) (news : List Value)
    (hs : a.eval s = .slice (some ⟨b, 0, none⟩) n cap) (hx : a.eval x = .slice (some ad) m c) (hl : news.length = m * 11) (hnews : ∀ j u, news[j]? = some u → w.cell? (ad.add j) = some u) (h1 : ∀ u ∈ news, u.oneCell' = true) (hroom : n + m ≤ cap) (hth : w.there b (n * 11) news.length)
    (h : wpList Try.prog ops Q rest (a.put dd (.slice (some ⟨b, 0, none⟩) (n + m) cap)) (w.setCells b (n * 11) news)) :
    wpList Try.prog ops Q ({ dst := dd, op := .call { callee := .builtin .append, args := #[s, x], argTypes := #[36, 36] }, type := tt, pos := pos, after := af, guard := .none } :: rest) a w := by
  obtain ⟨i, hi, hz0, hz1, hz2⟩ := info_parts info32
  have hrun := run_append_room_cells (P := Try.prog) (w := w) 36 tt 32 i Try.underlying36 hi b 0 n cap ad m c news (by rw [hz1]; exact hl) hnews h1 hroom (fun j hj => by rw [hz1, Nat.zero_add]; exact (hth j hj).1) (fun j hj => by rw [hz1, Nat.zero_add]; exact (hth j hj).2)
  rw [hz1, Nat.zero_add] at hrun
  refine wpList_plain rfl fun K hK => ?_
  unfold Oper.wp
  simp [execOp, resolve, invoke, builtin, hs, hx, hrun, Result.andThen]
  exact hK _ _ h
def zE : List Int := [0, 0, 0, 0, 0, 0, 0, 0, 0, 0, 0]
/-- clear of one entity. -/
theorem wpL_clear {ops : Array Oper} {rest : List Oper} {Q : Exit → Act → World → Prop} {a : Act} {w : World} {x : Operand} {tt : TypeId} {pos : String} {af : Array Edge} (b o c : Nat)
    (hx : a.eval x = .slice (some ⟨b, o, none⟩) 1 c) (hth : w.there b o 11)
    (h : wpList Try.prog ops Q rest a (w.setCells b o (zE.map I))) :
    wpList Try.prog ops Q ({ dst := none, op := .call { callee := .builtin .clear, args := #[x], argTypes := #[36] }, type := tt, pos := pos, after := af, guard := .none } :: rest) a w := by
  obtain ⟨i, hi, hz0, hz1, hz2⟩ := info_parts info32
  have hz : (zeroValue 32).run Try.prog w = .ok (.agg #[.int .i64 0, .int .i64 0, .int .i64 0, .int .i64 0, .int .i64 0, .int .i64 0, .int .i64 0, .int .i64 0, .int .i64 0, .int .i64 0, .int .i64 0]) w := by simp [zeroValue, typeInfo, hi, hz0]
  have hst := run_storeCells_cells (P := Try.prog) b o (zE.map I) 0 w (fun j hj => by rw [Nat.add_zero]; exact (hth j hj).1) (fun j hj => by rw [Nat.add_zero]; exact (hth j hj).2) (ent_one zE)
  simp only [Nat.add_zero] at hst
  have hzc : (Builtin.zeroCells (Value.agg #[.int .i64 0, .int .i64 0, .int .i64 0, .int .i64 0, .int .i64 0, .int .i64 0, .int .i64 0, .int .i64 0, .int .i64 0, .int .i64 0, .int .i64 0]).cells 1).toList = zE.map I := by kernel_rfl
  have hrun : (Builtin.clear_ #[36] tt #[.slice (some ⟨b, o, none⟩) 1 c]).run Try.prog w = .ok (.tuple #[]) (w.setCells b o (zE.map I)) := by
    simp [Builtin.clear_, run_underlying Try.underlying36, hz, hzc, hst]
  refine wpList_plain rfl fun K hK => ?_
  unfold Oper.wp
  simp [execOp, resolve, invoke, builtin, hx, hrun, Result.andThen]
  exact hK _ _ h
/-- One entity is taken out: what the two writes leave. -/
theorem Tb.cut {w : World} {b : Nat} {l : List (List Int)} {past : Int} (h : Tb w b l past) (i m : Nat) (hm : l.length = i + 1 + m) :
    (w.there b (i * 11) (m * 11)) ∧ (fl (l.drop (i + 1))).length = m * 11 ∧ (∀ j u, (fl (l.drop (i + 1)))[j]? = some u → w.cell? ⟨b, (i + 1) * 11 + j, none⟩ = some u) ∧ (w.setCells b (i * 11) (fl (l.drop (i + 1)))).there b ((i + m) * 11) 11 ∧
    ∃ rest, Blk ((w.setCells b (i * 11) (fl (l.drop (i + 1)))).setCells b ((i + m) * 11) (zE.map I)) b (tbL (l.eraseIdx i) rest (l.length : Int) past) 60 ∧ Elev (l.eraseIdx i) ∧ Elev rest ∧ (l.eraseIdx i).length + rest.length = 40 := by
  obtain ⟨rest, h, h1, h2, h3⟩ := h
  have hT : Elev (l.take i) := fun x hx => h1 x (List.mem_of_mem_take hx)
  have hD : Elev (l.drop (i + 1)) := fun x hx => h1 x (List.mem_of_mem_drop hx)
  have lT : (fl (l.take i)).length = i * 11 := by rw [fl_length hT, List.length_take]; congr 1; omega
  have lD : (fl (l.drop (i + 1))).length = m * 11 := by rw [fl_length hD, List.length_drop]; congr 1; omega
  have hi : i < l.length := by omega
  have he : (l.getD i []).length = 11 := h1 _ (by rw [List.getD, List.getElem?_eq_getElem hi]; simp)
  have el : l = l.take i ++ (l.getD i [] :: l.drop (i + 1)) := by
    rw [List.getD, List.getElem?_eq_getElem hi]
    simp
  have ee : l.eraseIdx i = l.take i ++ l.drop (i + 1) := List.eraseIdx_eq_take_drop_succ l i
  have hlen := tbL_length h1 h2 h3 (l.length : Int) past
  have eL : tbL l rest (l.length : Int) past = fl (l.take i) ++ (((l.getD i []).map I ++ fl (l.drop (i + 1))) ++ (fl rest ++ [I (l.length : Int), I past])) := by
    have e1 : fl l = fl (l.take i) ++ ((l.getD i []).map I ++ fl (l.drop (i + 1))) := by
      rw [← fl_cons, ← fl_append, ← el]
    unfold tbL
    rw [e1, List.append_assoc]
  have hle : ((l.getD i []).map I).length = 11 := by rw [List.length_map]; exact he
  have s1 := h.setCells (fl (l.drop (i + 1))) (i * 11) (by rw [hlen, lD]; omega)
  have o1 : over (tbL l rest (l.length : Int) past) (i * 11) (fl (l.drop (i + 1))) = fl (l.take i) ++ (fl (l.drop (i + 1)) ++ (((l.getD i []).map I ++ fl (l.drop (i + 1))).drop (m * 11) ++ (fl rest ++ [I (l.length : Int), I past]))) := by
    have := over_mid (fl (l.take i)) ((l.getD i []).map I ++ fl (l.drop (i + 1))) (fl rest ++ [I (l.length : Int), I past]) (fl (l.drop (i + 1))) (by rw [List.length_append]; omega)
    rw [lT, lD] at this
    rw [eL]; exact this
  rw [o1] at s1
  have lY : (((l.getD i []).map I ++ fl (l.drop (i + 1))).drop (m * 11)).length = 11 := by rw [List.length_drop, List.length_append, hle, lD]; omega
  generalize hY : ((l.getD i []).map I ++ fl (l.drop (i + 1))).drop (m * 11) = Y at *
  have ls1 : (fl (l.take i) ++ (fl (l.drop (i + 1)) ++ (Y ++ (fl rest ++ [I (l.length : Int), I past])))).length = 442 := by
    rw [List.length_append, List.length_append, List.length_append, List.length_append, lT, lD, lY, fl_length h2]
    simp; omega
  have s2 := s1.setCells (zE.map I) ((i + m) * 11) (by rw [ls1]; simp [zE]; omega)
  have o2 : over (fl (l.take i) ++ (fl (l.drop (i + 1)) ++ (Y ++ (fl rest ++ [I (l.length : Int), I past])))) ((i + m) * 11) (zE.map I) = tbL (l.eraseIdx i) (zE :: rest) (l.length : Int) past := by
    have hz : (zE.map I).length = 11 := rfl
    have := over_mid (fl (l.take i) ++ fl (l.drop (i + 1))) Y (fl rest ++ [I (l.length : Int), I past]) (zE.map I) (by rw [lY, hz]; exact Nat.le_refl _)
    rw [List.length_append, lT, lD, ← Nat.add_mul, List.append_assoc] at this
    have hd : Y.drop 11 = [] := List.drop_eq_nil_of_le (by omega)
    rw [this, hz, hd, List.nil_append, ee, tbL, fl_append, fl_cons, List.append_assoc (zE.map I)]
  rw [o2] at s2
  refine ⟨h.there _ _ (by rw [hlen]; omega), lD, fun j u hu => ?_, s1.there _ _ (by rw [ls1]; omega), zE :: rest, s2, ?_, Elev.cons.2 ⟨rfl, h2⟩, ?_⟩
  · have hj := (List.getElem?_eq_some_iff.1 hu).1
    have ei : (i + 1) * 11 + j - (fl (l.take i)).length - ((l.getD i []).map I).length = j := by rw [lT, hle]; omega
    rw [h.cell, eL, List.getElem?_append_right (by omega), List.getElem?_append_left (by rw [List.length_append, lT]; omega), List.getElem?_append_right (by omega), ei]
    exact hu
  · rw [ee]; exact Elev.append.2 ⟨hT, hD⟩
  · rw [List.length_eraseIdx_of_lt hi]; simp; omega
/-- What Delete leaves. -/
def OutDel (w : World) (b : Nat) (l : List (List Int)) (past : Int) (i m : Nat) (r : Ending) (w' : World) : Prop := r = .returned (.slice (some ⟨b, 0, none⟩) (i + m) 40) ∧ (∃ rest, Blk w' b (tbL (l.eraseIdx i) rest (l.length : Int) past) 60 ∧ Elev (l.eraseIdx i) ∧ Elev rest ∧ (l.eraseIdx i).length + rest.length = 40) ∧ Only b w w'
set_option maxHeartbeats 4000000 in
theorem del_any (b : Nat) (l : List (List Int)) (past : Int) (i m : Nat) (hm : l.length = i + 1 + m) (w : World) (h : Tb w b l past) : Calls Try.prog 31 #[.slice (some ⟨b, 0, none⟩) (i + 1 + m) 40, .int .i64 (i : Int), .int .i64 ((i : Int) + 1)] w fun r w' => OutDel w b l past i m r w' := by
  have hf := h.few
  rw [hm] at hf
  have HC := hid ((h.keep (w' := w.drew) rfl).cut i m hm)
  have HT := hid h
  unfold OutDel
  obtain ⟨ws, hws⟩ : ∃ ws, ws = fl (l.drop (i + 1)) := ⟨_, rfl⟩
  rw [← hws] at HC
  have hone : Hid (∀ v ∈ ws, v.oneCell' = true) := by rw [hws]; exact fl_one _
  clear hws h hm
  have a1 : (i : Int) + 1 ≤ (i : Int) + 1 + (m : Int) := by omega
  have a2 : (i : Int) + 1 + (m : Int) ≤ 40 := by omega
  have a3 : (0 : Int) ≤ (i : Int) := by omega
  have a4 : ((i : Int) == (i : Int) + 1) = false := by simp; omega
  have a5 : (i : Int) ≤ 40 := by omega
  go_enter Try.func31, Try.ntmps31
  go_upto_region 5 with fail
  have HNW : Hid (∀ j u, ws[j]? = some u → w.drew.cell? ((⟨b, (i + 1) * 11, none⟩ : Addr).add j) = some u) := fun j u hu => by rw [Addr.add_mid]; exact HC.out.2.2.1 j u hu
  have HTH : Hid (w.drew.there b (i * 11) ws.length) := by show w.drew.there _ _ _; rw [HC.out.2.1]; exact HC.out.1
  have hrm : i + m ≤ 40 := by omega
  have a6 : (0 : Int) ≤ (i : Int) + 1 := by omega
  by_cases h40 : i + 1 = 40
  · obtain rfl : m = 0 := by omega
    obtain rfl : i = 39 := by omega
    have hw0 : ws = [] := List.eq_nil_of_length_eq_zero (by have := HC.out.2.1; omega)
    subst hw0
    go_still_tail 6, (by kernel_rfl)
    rw [show ({ heap := w.heap, tape := w.tape, drawn := w.drawn + 1, os := w.os, output := w.output } : World) = w.drew from rfl]
    have HNW0 : Hid (∀ (j : Nat) (u : Value), ([] : List Value)[j]? = some u → w.drew.cell? ((⟨b, 0, none⟩ : Addr).add j) = some u) := fun j u hu => by simp at hu
    go_upto_region 6 with (first
      | ((with_reducible refine wpL_room b 39 40 ⟨b, 0, none⟩ 0 0 [] ?_ ?_ (by rfl) HNW0.out hone.out (by omega) HTH.out ?_); (rfl); (rfl); (simp only [Act.put, List.setIfInBounds_toArray, List.set_cons_zero, List.set_cons_succ])))
    have HTC : Hid (w.drew.there b 429 11) := HC.out.2.2.2.1
    have HEX : Hid (∃ rest, Blk (w.drew.setCells b 429 (zE.map I)) b (tbL (l.eraseIdx 39) rest (l.length : Int) past) 60 ∧ Elev (l.eraseIdx 39) ∧ Elev rest ∧ (l.eraseIdx 39).length + rest.length = 40) := HC.out.2.2.2.2
    have HON : Hid (Only b w (w.drew.setCells b 429 (zE.map I))) := (Only.drewn b w).trans (Only.sets b _ w.drew _)
    go_wp2_with (first
      | ((with_reducible refine wpL_clear b 429 1 ?_ HTC.out ?_); (rfl)))
    go_ret
    exact ⟨rfl, HEX.out, HON.out⟩
  · have h40' : (40 = i + 1) = False := by simp; omega
    have h40'' : (i + 1 = 40) = False := by simp; omega
    go_still_tail 6, (by kernel_rfl)
    rw [show ({ heap := w.heap, tape := w.tape, drawn := w.drawn + 1, os := w.os, output := w.output } : World) = w.drew from rfl]
    go_upto_region 6 with (first
      | ((with_reducible refine wpL_room b i 40 ⟨b, (i + 1) * 11, none⟩ m (39 - i) ws ?_ ?_ HC.out.2.1 HNW.out hone.out hrm HTH.out ?_); (rfl); (rfl); (simp only [Act.put, List.setIfInBounds_toArray, List.set_cons_zero, List.set_cons_succ])))
    have HTC := hid HC.out.2.2.2.1
    have HEX := hid HC.out.2.2.2.2
    have HON : Hid (Only b w ((w.drew.setCells b (i * 11) ws).setCells b ((i + m) * 11) (zE.map I))) := ((Only.drewn b w).trans (Only.sets b _ w.drew ws)).trans (Only.sets b _ _ _)
    generalize w.drew.setCells b (i * 11) ws = V at *
    have b1 : (0 : Int) ≤ (i : Int) + (m : Int) := by omega
    have b2 : (i : Int) + (m : Int) ≤ (i : Int) + 1 + (m : Int) := by omega
    have b3 : (i + m = 40) = False := by simp; omega
    have b4 : (40 = i + m) = False := by simp; omega
    have b5 : i + 1 + m - (i + m) = 1 := by omega
    go_wp2_with (first
      | ((with_reducible refine wpL_clear b ((i + m) * 11) (40 - (i + m)) ?_ HTC.out ?_); (exact congrArg (fun k => Value.slice (some ⟨b, (i + m) * 11, none⟩) k (40 - (i + m))) b5)))
    go_ret
    exact ⟨rfl, HEX.out, HON.out⟩
end Go.Proofs.Ytdagkeklfhlcnaa
