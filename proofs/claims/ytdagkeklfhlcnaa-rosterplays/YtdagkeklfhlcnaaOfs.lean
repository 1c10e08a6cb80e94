/- The IDs of an owner's entities: the program's Of, the reference's; lists of integers held side by side. -/
import Derived.Test.YtdagkeklfhlcnaaRem
namespace Go.Proofs.Ytdagkeklfhlcnaa
open Go.RowKit
/-- v is the call's own slice (its block is base or later), and holds the integers xs. -/
def OwnI (w : World) (base : Nat) (v : Value) (xs : List Int) : Prop := w.ownsRow base 3 1 v xs.length (xs.map I)
theorem info3 : (Try.prog.info? 3).map (fun i => (i.zero, i.size, i.bytes)) = some (some (.int .i64 0), 1, 8) := by kernel_rfl
theorem OwnI.nil (w : World) (base : Nat) : OwnI w base (.slice none 0 0) [] := ⟨rfl, Or.inl ⟨rfl, rfl⟩⟩
theorem OwnI.form {w : World} {base : Nat} {v : Value} {xs : List Int} (h : OwnI w base v xs) : ∃ p cap, v = .slice p xs.length cap := by
  obtain ⟨_, ⟨rfl, hn⟩ | ⟨g, cap, cur, rfl, _⟩⟩ := h
  · exact ⟨_, _, by rw [hn]⟩
  · exact ⟨_, _, rfl⟩
theorem OwnI.at {w : World} {base : Nat} {p : Option Addr} {N cap : Nat} {xs : List Int} (h : OwnI w base (.slice p N cap) xs) {i : Nat} (hi : i < N) : ∃ g, p = some ⟨g, 0, none⟩ ∧ g < w.heap.size ∧ w.cell? ⟨g, i, none⟩ = some (.int .i64 (xs.getD i 0)) := by
  obtain ⟨_, ⟨hv, hn⟩ | ⟨g, c, cur, hv, hg, hh, hc, hm, hcs, ht⟩⟩ := h
  · simp at hv; omega
  · simp at hv
    obtain ⟨rfl, rfl, rfl⟩ := hv
    refine ⟨g, rfl, (Array.getElem?_eq_some_iff.1 hh).1, ?_⟩
    rw [cell_of_row _ _ _ _ _ _ hh]
    rw [Nat.mul_one] at ht
    have e : (cur.toList.take xs.length)[i]? = (xs.map I)[i]? := by rw [ht]
    rw [List.getElem?_take, if_pos hi] at e
    rw [← Array.getElem?_toList, e]
    simp [hi, I]
theorem OwnI.keep {w w' : World} {base : Nat} {v : Value} {xs : List Int} (h : OwnI w base v xs) (hb : ∀ k, base ≤ k → k < w.heap.size → w'.heap[k]? = w.heap[k]?) : OwnI w' base v xs := by
  obtain ⟨h1, ⟨rfl, hn⟩ | ⟨g, cap, cur, rfl, hg, hh, r⟩⟩ := h
  · exact ⟨h1, Or.inl ⟨rfl, hn⟩⟩
  · exact ⟨h1, Or.inr ⟨g, cap, cur, rfl, hg, by rw [hb g hg (Array.getElem?_eq_some_iff.1 hh).1]; exact hh, r⟩⟩
theorem OwnI.block {w : World} {base : Nat} {v : Value} {xs : List Int} (h : OwnI w base v xs) : ∀ k, v.ownBlock = some k → base ≤ k ∧ k < w.heap.size := by
  intro k hk
  obtain ⟨_, ⟨rfl, hn⟩ | ⟨g, cap, cur, rfl, hg, hh, _⟩⟩ := h
  · simp [Value.ownBlock] at hk
  · simp [Value.ownBlock] at hk
    subst hk
    exact ⟨hg, (Array.getElem?_eq_some_iff.1 hh).1⟩
/-- One integer more, out of a new block that holds it. -/
theorem wpL_appendI {ops : Array Oper} {rest : List Oper} {Q : Exit → Act → World → Prop} {a : Act} {w : World} {dd : Option Tmp} {s x : Operand} {tt : TypeId} {pos : String} {af : Array Edge} (base : Nat) (v : Value) (xs : List Int) (z : Int) (sb : Nat)
    (hs : a.eval s = v) (hx : a.eval x = .slice (some ⟨sb, 0, none⟩) 1 1) (ho : OwnI w base v xs) (hb : Blk w sb [.int .i64 z] 3) (hsz : xs.length ≤ 1000000) (hbase : base ≤ w.heap.size)
    (h : ∀ v' w', OwnI w' base v' (xs ++ [z]) → Below base w w' → wpList Try.prog ops Q rest (a.put dd v') w') :
    wpList Try.prog ops Q ({ dst := dd, op := .call { callee := .builtin .append, args := #[s, x], argTypes := #[56, 56] }, type := tt, pos := pos, after := af, guard := .none } :: rest) a w := by
  obtain ⟨i, hi, hz0, hz1, hz2⟩ := info_parts info3
  refine wpList_append_own_at w rfl s x 56 rfl base 3 i (.int .i64 0) 1 8 Try.underlying56 hi hz0 hz1 hz2 rfl (by omega) v xs.length (xs.map I) hs ho ⟨sb, 0, .none⟩ 1 1 [I z] hx rfl ?_ (by intro q hq; simp at hq; subst hq; rfl) (by simp only [maxLen]; omega) (by omega) hbase ?_
  · intro j u hu
    rw [Addr.add_mid, Nat.zero_add, hb.cell j]
    exact hu
  · intro v' w' ho' hg hnil hat
    have ho'' : OwnI w' base v' (xs ++ [z]) := by unfold OwnI; rw [List.map_append, List.length_append]; exact ho'
    refine h v' w' ho'' ⟨hg.os, hg.tape, hg.output, hg.size, fun k hk => hg.block k (by omega) (fun he => ?_)⟩
    have := (ho.block k he.symm).1
    omega
/-- The IDs of the entities of an owner. -/
def ofL (l : List (List Int)) (o : Int) : List Int := (l.filter fun e => e.getD 1 0 == o).map fun e => e.getD 0 0
theorem ofL_len (l : List (List Int)) (o : Int) : (ofL l o).length ≤ l.length := by
  unfold ofL; rw [List.length_map]; exact List.length_filter_le _ _
theorem ofL_take (l : List (List Int)) (o : Int) (i : Nat) (hi : i < l.length) : ofL (l.take (i + 1)) o = if (l.getD i []).getD 1 0 = o then ofL (l.take i) o ++ [(l.getD i []).getD 0 0] else ofL (l.take i) o := by
  have e : l.take (i + 1) = l.take i ++ [l.getD i []] := by
    rw [List.take_succ_eq_append_getElem hi, List.getD, List.getElem?_eq_getElem hi]; rfl
  rw [e]
  unfold ofL
  rw [List.filter_append, List.map_append]
  by_cases h : (l.getD i []).getD 1 0 = o
  · have hb : ((l.getD i []).getD 1 0 == o) = true := by simpa using h
    rw [if_pos h, List.filter_cons, if_pos hb]; rfl
  · have hb : ((l.getD i []).getD 1 0 == o) = false := by simpa using h
    rw [if_neg h, List.filter_cons, hb]; simp
def OutInts (w : World) (xs : List Int) (q : Ending) (w' : World) : Prop := ∃ v, q = .returned v ∧ OwnI w' w.heap.size v xs ∧ Below w.heap.size w w'
set_option maxRecDepth 20000 in
set_option maxHeartbeats 4000000 in
theorem of_any (b : Nat) (l : List (List Int)) (past o : Int) (w : World) (h : Tb w b l past) : Calls Try.prog 20 #[P b, .int .i64 o] w fun q w' => OutInts w (ofL l o) q w' := by
  have h29 : Hid (∀ W, Tb W b l past → Calls Try.prog 29 #[P b] W fun e w' => e = .returned (.slice (some ⟨b, 0, none⟩) l.length 40) ∧ ∃ k, w' = W.drewN k) := fun W h => all_any b l past W h
  have HT := hid h
  have HLT := hid h.lt
  have hn := h.few
  obtain ⟨N, hN⟩ : ∃ N, N = l.length := ⟨_, rfl⟩
  have HN := hid (fun (_ : Nat) => hN)
  rw [← hN] at h29 hn
  have HS : Hid (N ≤ 1000000) := hid (by omega)
  unfold OutInts
  unfold P at *
  clear h hN
  go_enter Try.func20, Try.ntmps20
  go_wp2_with fail
  refine Calls.mono (h29.out _ HT.out) ?_
  rintro e w1 ⟨rfl, k, hw1⟩
  have HB1 : Hid (Below w.heap.size w w1) := by rw [hw1]; exact Below.drewN1 w k
  clear hw1 h29
  go_wp2_with fail
  go_loopw [11, 5] (fun iv lv wr => ∃ i : Nat, i ≤ N ∧ iv = .int .i64 (i : Int) ∧ Hid (OwnI wr w.heap.size lv (ofL (l.take i) o)) ∧ Hid (Below w.heap.size w wr)) (fun iv _ _ => N - (intOf iv).toNat)
  case atStart => exact ⟨0, by omega, rfl, OwnI.nil _ _, HB1⟩
  case round =>
    clear HB1
    obtain ⟨i, hi, rfl, HO, HB⟩ := hrel
    by_cases hl : i < N
    · have hl' : (i : Int) < (N : Int) := by omega
      have hl0 : (0 : Int) ≤ (i : Int) := by omega
      obtain ⟨z0, z1, z2, z3, z4, z5, z6, z7, z8, z9, z10, he, hc⟩ := HT.out.nums i (by have := HN.out 0; omega)
      obtain ⟨c0, c1, c2, c3, c4, c5, c6, c7, c8, c9, c10⟩ := hc wr (HB.out.block b HLT.out)
      have HE : Hid ((l.getD i []) = [z0, z1, z2, z3, z4, z5, z6, z7, z8, z9, z10]) := he
      have HST := hid (ofL_take l o i (by have := HN.out 0; omega))
      rw [HE.out] at HST
      have HLN : Hid ((ofL (l.take i) o).length ≤ 1000000) := by
        have h1 := ofL_len (l.take i) o
        have h2 := HN.out 0
        have h3 := HS.out
        rw [List.length_take] at h1
        exact hid (by omega)
      clear hc he
      by_cases hz : z1 = o
      · subst hz
        have HST2 : Hid (ofL (l.take (i + 1)) z1 = ofL (l.take i) z1 ++ [z0]) := HST.out.trans (if_pos rfl)
        have hzz : (z1 == z1) = true := by simp
        have HOA : Hid (OwnI ((wr.alloc (.cells #[Value.int .i64 z0, .int .i64 z1, .int .i64 z2, .int .i64 z3, .int .i64 z4, .int .i64 z5, .int .i64 z6, .int .i64 z7, .int .i64 z8, .int .i64 z9, .int .i64 z10] 32)).alloc (.cells #[Value.int .i64 z0] 3)) w.heap.size u5 (ofL (l.take i) z1)) := (HO.out.keep fun k _ hk => (Below.heap_alloc _ _ k (Nat.lt_of_lt_of_le hk (by simp))).trans (Below.heap_alloc _ _ k hk))
        have HBA : Hid (Below w.heap.size w ((wr.alloc (.cells #[Value.int .i64 z0, .int .i64 z1, .int .i64 z2, .int .i64 z3, .int .i64 z4, .int .i64 z5, .int .i64 z6, .int .i64 z7, .int .i64 z8, .int .i64 z9, .int .i64 z10] 32)).alloc (.cells #[Value.int .i64 z0] 3))) := (HB.out.alloc HB.out.size _).alloc (Nat.le_trans HB.out.size (by simp)) _
        have HNB : Hid (Blk ((wr.alloc (.cells #[Value.int .i64 z0, .int .i64 z1, .int .i64 z2, .int .i64 z3, .int .i64 z4, .int .i64 z5, .int .i64 z6, .int .i64 z7, .int .i64 z8, .int .i64 z9, .int .i64 z10] 32)).alloc (.cells #[Value.int .i64 z0] 3)) (wr.alloc (.cells #[Value.int .i64 z0, .int .i64 z1, .int .i64 z2, .int .i64 z3, .int .i64 z4, .int .i64 z5, .int .i64 z6, .int .i64 z7, .int .i64 z8, .int .i64 z9, .int .i64 z10] 32)).heap.size [.int .i64 z0] 3) := Blk.new _ _ _
        rw [show (wr.alloc (.cells #[Value.int .i64 z0, .int .i64 z1, .int .i64 z2, .int .i64 z3, .int .i64 z4, .int .i64 z5, .int .i64 z6, .int .i64 z7, .int .i64 z8, .int .i64 z9, .int .i64 z10] 32)).heap.size = wr.heap.size + 1 by simp] at HNB
        generalize ofL (l.take i) z1 = xs at *
        clear HO HST
        go_wp2_with (first
          | ((with_reducible refine wpL_appendI w.heap.size u5 xs z0 (wr.heap.size + 1) ?_ ?_ HOA.out HNB.out HLN.out HBA.out.size ?_); (rfl); (rfl); (intro v5 w5 ho5 hb5); (have HO5 := hid ho5; have HB5 := hid (HBA.out.trans hb5); clear ho5 hb5); (simp only [Act.put, List.setIfInBounds_toArray, List.set_cons_zero, List.set_cons_succ])))
        go_roundw
        case rel => exact ⟨i + 1, by omega, by simp, by rw [HST2.out]; exact HO5, HB5⟩
        case measure => simp [intOf]; omega
      · have HST2 : Hid (ofL (l.take (i + 1)) o = ofL (l.take i) o) := HST.out.trans (if_neg hz)
        have hzz : (z1 == o) = false := by simpa using hz
        have HOA : Hid (OwnI (wr.alloc (.cells #[Value.int .i64 z0, .int .i64 z1, .int .i64 z2, .int .i64 z3, .int .i64 z4, .int .i64 z5, .int .i64 z6, .int .i64 z7, .int .i64 z8, .int .i64 z9, .int .i64 z10] 32)) w.heap.size u5 (ofL (l.take i) o)) := (HO.out.keep fun k _ hk => Below.heap_alloc _ _ _ hk)
        have HBA : Hid (Below w.heap.size w (wr.alloc (.cells #[Value.int .i64 z0, .int .i64 z1, .int .i64 z2, .int .i64 z3, .int .i64 z4, .int .i64 z5, .int .i64 z6, .int .i64 z7, .int .i64 z8, .int .i64 z9, .int .i64 z10] 32))) := HB.out.alloc HB.out.size _
        clear hz HST
        go_wp2
        go_roundw
        case rel => exact ⟨i + 1, by omega, by simp, by rw [HST2.out]; exact HOA, HBA⟩
        case measure => simp [intOf]; omega
    · obtain rfl : i = N := by omega
      have hl' : ((i : Int) < (i : Int)) = False := by simp
      have HT : Hid (l.take i = l) := by rw [HN.out 0]; exact hid List.take_length
      go_wp2
      go_ret
      exact ⟨_, rfl, by rw [HT.out] at HO; exact HO.out, HB.out⟩
end Go.Proofs.Ytdagkeklfhlcnaa
