/- List: a row of entities of its own. -/
import Derived.Test.YtdagkeklfhlcnaaGet
import Derived.Maps.AppendAt
import Derived.Laws.Cover3
namespace Go.Proofs.Ytdagkeklfhlcnaa
open Go.RowKit
/-- v is the call's own slice (its block is base or later), and holds the entities es. -/
def OwnE (w : World) (base : Nat) (v : Value) (es : List (List Int)) : Prop := w.ownsRow base 32 11 v es.length (fl es) ∧ Elev es
theorem OwnE.form {w : World} {base : Nat} {v : Value} {es : List (List Int)} (h : OwnE w base v es) : ∃ p cap, v = .slice p es.length cap := by
  obtain ⟨⟨_, ⟨rfl, hn⟩ | ⟨g, cap, cur, rfl, _⟩⟩, _⟩ := h
  · exact ⟨_, _, by rw [hn]⟩
  · exact ⟨_, _, rfl⟩
/-- The first cell of an entity (its ID), where it lies. -/
theorem OwnE.at {w : World} {base : Nat} {p : Option Addr} {N cap : Nat} {es : List (List Int)} (h : OwnE w base (.slice p N cap) es) (hN : 0 < N) : N = es.length ∧ ∃ g, p = some ⟨g, 0, none⟩ ∧ base ≤ g ∧ g < w.heap.size ∧ (∀ j, w.frozen? ⟨g, j, none⟩ = false) ∧ ∀ i, i < N → ∀ k, k < 11 → w.cell? ⟨g, i * 11 + k, none⟩ = some (.int .i64 ((es.getD i []).getD k 0)) := by
  obtain ⟨⟨hl, ⟨hv, hn⟩ | ⟨g, c, cur, hv, hg, hh, hc, hm, hcs, ht⟩⟩, he⟩ := h
  · simp at hv; omega
  · simp at hv
    obtain ⟨rfl, rfl, rfl⟩ := hv
    refine ⟨rfl, g, rfl, hg, (Array.getElem?_eq_some_iff.1 hh).1, fun j => by simp [World.frozen?, hh], fun i hi k hk => ?_⟩
    have hx : (es.getD i []).length = 11 := he _ (by rw [List.getD, List.getElem?_eq_getElem hi]; simp)
    have h1 := fl_take he i hi []
    rw [List.append_nil] at h1
    have h2 : (fl es)[i * 11 + k]? = ((es.getD i []).map I)[k]? := by
      rw [← h1, List.getElem?_take, if_pos hk, List.getElem?_drop]
    rw [cell_of_row _ _ _ _ _ _ hh, ← Array.getElem?_toList]
    have h3 : (cur.toList.take (es.length * 11))[i * 11 + k]? = (fl es)[i * 11 + k]? := by rw [ht]
    rw [List.getElem?_take, if_pos (by omega)] at h3
    rw [h3, h2]
    generalize es.getD i [] = x at *
    simp [show k < x.length by omega, I]
theorem OwnE.keep {w w' : World} {base : Nat} {v : Value} {es : List (List Int)} (h : OwnE w base v es) (hb : ∀ k, base ≤ k → k < w.heap.size → w'.heap[k]? = w.heap[k]?) : OwnE w' base v es := by
  obtain ⟨⟨h1, ⟨rfl, hn⟩ | ⟨g, cap, cur, rfl, hg, hh, r⟩⟩, he⟩ := h
  · exact ⟨⟨h1, Or.inl ⟨rfl, hn⟩⟩, he⟩
  · exact ⟨⟨h1, Or.inr ⟨g, cap, cur, rfl, hg, by rw [hb g hg (Array.getElem?_eq_some_iff.1 hh).1]; exact hh, r⟩⟩, he⟩
/-- append of entities onto an empty slice of the call's own. -/
theorem wpL_appendE {ops : Array Oper} {rest : List Oper} {Q : Exit → Act → World → Prop} {a : Act} {w : World} {dd : Option Tmp} {s x : Operand} {tt : TypeId} {pos : String} {af : Array Edge} (base : Nat) (v : Value) (ad : Addr) (m c : Nat) (es : List (List Int))
    (hs : a.eval s = v) (hx : a.eval x = .slice (some ad) m c) (hm : m = es.length) (he : Elev es) (ho : OwnE w base v []) (hb : ∀ j u, (fl es)[j]? = some u → w.cell? (ad.add j) = some u) (hsz : m ≤ 1000000) (hbase : base ≤ w.heap.size)
    (h : ∀ v' w', OwnE w' base v' es → Below base w w' → wpList Try.prog ops Q rest (a.put dd v') w') :
    wpList Try.prog ops Q ({ dst := dd, op := .call { callee := .builtin .append, args := #[s, x], argTypes := #[36, 36] }, type := tt, pos := pos, after := af, guard := .none } :: rest) a w := by
  subst hm
  obtain ⟨i, hi, hz0, hz1, hz2⟩ := info_parts info32
  refine wpList_append_own_at w rfl s x 36 rfl base 32 i _ 11 88 Try.underlying36 hi hz0 hz1 hz2 rfl (by omega) v 0 [] hs ho.1 ad es.length c (fl es) hx (fl_length he) hb (fl_one es) (by simp only [maxLen]; omega) (by omega) hbase ?_
  intro v' w' ho' hg hnil hat
  refine h v' w' ⟨by rw [Nat.zero_add, List.nil_append] at ho'; exact ho', he⟩ ⟨hg.os, hg.tape, hg.output, hg.size, fun k hk => hg.block k (by omega) (fun e => ?_)⟩
  obtain ⟨⟨_, ⟨rfl, _⟩ | ⟨g, cap, cur, rfl, hgb, _⟩⟩, _⟩ := ho
  · simp [Value.ownBlock] at e
  · simp [Value.ownBlock] at e; omega
theorem own_empty (w : World) : OwnE (w.alloc (.cells #[] 32)) w.heap.size (.slice (some ⟨w.heap.size, 0, none⟩) 0 0) [] :=
  ⟨⟨rfl, Or.inr ⟨w.heap.size, 0, #[], rfl, Nat.le_refl _, heap_alloc_last _ _, Nat.le_refl _, by simp, rfl, rfl⟩⟩, fun _ h => by cases h⟩
def OutList (w : World) (l : List (List Int)) (r : Ending) (w' : World) : Prop := ∃ v, r = .returned v ∧ OwnE w' w.heap.size v l ∧ Below w.heap.size w w'
theorem run_eqlNil (w : World) (p : Option Addr) (n c : Nat) : (binOp .eql 36 (.slice p n c) (.slice none 0 0)).run Try.prog w = .ok (.bool p.isNone) w := by
  simp only [binOp]
  have := run_equal_slice_nil (P := Try.prog) w 36 32 p n c Try.underlying36
  simp [go_sem, this]
attribute [local go_sem ↓] run_eqlNil
set_option maxHeartbeats 1000000 in
theorem listNil_any (w : World) : Calls Try.prog 13 #[.pointer none] w fun r w' => r = .returned (.slice none 0 0) ∧ w' = w := by
  have h29 := hid allNil_any
  have h28 : Hid (∀ W, Calls Try.prog 28 #[.slice none 0 0] W fun r w' => r = .returned (.slice none 0 0) ∧ w' = W) := fun W => by
    go_enter Try.func28, Try.ntmps28
    go_wp2
    go_ret
    exact ⟨rfl, rfl⟩
  go_enter Try.func13, Try.ntmps13
  go_wp2_with fail
  refine Calls.mono (h29.out _) ?_
  rintro e w1 ⟨rfl, rfl⟩
  go_wp2_with fail
  refine Calls.mono (h28.out _) ?_
  rintro e w2 ⟨rfl, rfl⟩
  go_wp2
  go_ret
  exact ⟨rfl, rfl⟩
set_option maxHeartbeats 1000000 in
theorem clone_any (b : Nat) (l : List (List Int)) (past : Int) (w : World) (h : Tb w b l past) : Calls Try.prog 28 #[.slice (some ⟨b, 0, none⟩) l.length 40] w fun r w' => OutList w l r w' := by
  have hn := h.few
  have HLE := hid h.elev
  have HNW : Hid (∀ j u, (fl l)[j]? = some u → (w.alloc (.cells #[] 32)).cell? ((⟨b, 0, none⟩ : Addr).add j) = some u) := fun j u hu => by
    have h2 := h.below (B := w.heap.size) ((Below.refl _ w).alloc (Nat.le_refl _) (.cells #[] 32)) h.lt
    obtain ⟨rest, hb, h1, _, _⟩ := h2
    rw [Addr.add_mid, Nat.zero_add, hb.cell, tbL, List.getElem?_append_left (List.getElem?_eq_some_iff.1 hu).1]
    exact hu
  have hO := hid (own_empty w)
  obtain ⟨N, hN⟩ : ∃ N, N = l.length := ⟨_, rfl⟩
  rw [← hN] at hn ⊢
  have HN := hid (fun (_ : Nat) => hN)
  have hs : N ≤ 1000000 := by omega
  unfold OutList
  clear h hN
  go_enter Try.func28, Try.ntmps28
  go_wp2_with (first
    | ((with_reducible refine wpL_appendE w.heap.size (.slice (some ⟨w.heap.size, 0, none⟩) 0 0) ⟨b, 0, none⟩ N 40 l ?_ ?_ (HN.out 0) HLE.out hO.out HNW.out hs (by simp) ?_); (rfl); (rfl); (intro v' w5 ho5 hb5); (have HO5 := hid ho5; have HB5 := hid hb5; clear ho5 hb5); (simp only [Act.put, List.setIfInBounds_toArray, List.set_cons_zero, List.set_cons_succ])))
  go_ret
  exact ⟨_, rfl, HO5.out, ((Below.refl _ w).alloc (Nat.le_refl _) _).trans HB5.out⟩
set_option maxHeartbeats 1000000 in
theorem list_any (b : Nat) (l : List (List Int)) (past : Int) (w : World) (h : Tb w b l past) : Calls Try.prog 13 #[P b] w fun r w' => OutList w l r w' := by
  have h29 : Hid (Calls Try.prog 29 #[P b] w fun e w' => e = .returned (.slice (some ⟨b, 0, none⟩) l.length 40) ∧ ∃ k, w' = w.drewN k) := all_any b l past w h
  have h28 : Hid (∀ W, Tb W b l past → Calls Try.prog 28 #[.slice (some ⟨b, 0, none⟩) l.length 40] W fun r w' => OutList W l r w') := fun W h => clone_any b l past W h
  have HT := hid h
  unfold P OutList at *
  clear h
  go_enter Try.func13, Try.ntmps13
  go_wp2_with fail
  refine Calls.mono h29.out ?_
  rintro e w1 ⟨rfl, k, hw1⟩
  have HB1 : Hid (Below w.heap.size w w1) := by rw [hw1]; exact Below.drewN1 w k
  have HT1 : Hid (Tb w1 b l past) := by rw [hw1]; exact HT.out.keep rfl
  have HS : Hid (w1.heap.size = w.heap.size) := by rw [hw1]; rfl
  clear hw1
  go_wp2_with fail
  refine Calls.mono (h28.out _ HT1.out) ?_
  rintro e w2 ⟨v, rfl, ho, hb⟩
  rw [HS.out] at ho hb
  have HO := hid ho
  have HB := hid (HB1.out.trans hb)
  clear ho hb
  go_wp2
  go_ret
  exact ⟨_, rfl, HO.out, HB.out⟩
end Go.Proofs.Ytdagkeklfhlcnaa
