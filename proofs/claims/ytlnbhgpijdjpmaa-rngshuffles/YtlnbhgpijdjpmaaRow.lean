/- Rows of integers that a call made itself; Shuffle's copy. -/
import Derived.Test.YtlnbhgpijdjpmaaInts
import Derived.Test.YtlnbhgpijdjpmaaBel
import Derived.OwnWalk
import Derived.Laws.CopyOwn
import Derived.Laws.AppendOwnNone
namespace Go.Proofs.Ytlnbhgpijdjpmaa
open Go.RowKit
def I (z : Int) : Value := .int .i64 z
/-- Block g holds the integers zs at its head. -/
def RowB (w : World) (g : Nat) (zs : List Int) : Prop := ∃ cur : Array Value, w.heap[g]? = some (.cells cur 3 (0, 0)) ∧ cur.toList.take zs.length = zs.map I
theorem RowB.lt {w : World} {g : Nat} {zs : List Int} (h : RowB w g zs) : g < w.heap.size := by
  obtain ⟨cur, h, _⟩ := h
  exact (Array.getElem?_eq_some_iff.1 h).1
theorem RowB.cell {w : World} {g : Nat} {zs : List Int} (h : RowB w g zs) (i : Nat) (hi : i < zs.length) : w.cell? ⟨g, i, none⟩ = some (.int .i64 (zs.getD i 0)) := by
  obtain ⟨cur, h, ht⟩ := h
  rw [cell_of_row _ _ _ _ _ _ h]
  have e : (cur.toList.take zs.length)[i]? = (zs.map I)[i]? := by rw [ht]
  rw [List.getElem?_take, if_pos hi] at e
  rw [← Array.getElem?_toList, e]
  simp [hi, I]
theorem RowB.frozen {w : World} {g : Nat} {zs : List Int} (h : RowB w g zs) (i : Nat) : w.frozen? ⟨g, i, none⟩ = false := by
  obtain ⟨cur, h, ht⟩ := h
  simp [World.frozen?, h]
theorem RowB.set {w : World} {g : Nat} {zs : List Int} (h : RowB w g zs) (i : Nat) (z : Int) : RowB (w.setCell ⟨g, i, none⟩ (.int .i64 z)) g (zs.set i z) := by
  obtain ⟨cur, h, ht⟩ := h
  refine ⟨cur.setIfInBounds i (.int .i64 z), ?_, ?_⟩
  · simp [World.setCell, Array.getElem?_modify, h]
  · rw [Array.toList_setIfInBounds, List.length_set, List.take_set, ht, List.map_set]; rfl
theorem RowB.keep {w w' : World} {g : Nat} {zs : List Int} (h : RowB w g zs) (k : w'.heap[g]? = w.heap[g]?) : RowB w' g zs := by
  obtain ⟨cur, h, ht⟩ := h
  exact ⟨cur, by rw [k]; exact h, ht⟩
theorem Below.only {w w' : World} (h : Below w.heap.size w w') (b : Nat) : Only b w w' := ⟨h.os, h.tape, h.output, h.size, fun k _ hk => h.block k hk⟩
theorem info3 : (Try.prog.info? 3).map (fun i => (i.zero, i.size, i.bytes)) = some (some (.int .i64 0), 1, 8) := by kernel_rfl
/-- What a copy of a list answers: a new row, with the integers in it. -/
def OutC (w : World) (M : Nat) (zs : List Int) (e : Ending) (w' : World) : Prop := e = .returned (.slice (some ⟨w.heap.size, 0, none⟩) M M) ∧ RowB w' w.heap.size zs ∧ Below w.heap.size w w'
theorem splice_whole {w : World} {g M : Nat} {cur : List Value} {zs : List Int} (hM : M = zs.length) (hc : cur.length = M) (h : w.heap[g]? = some (.cells (splice cur 0 (zs.map I)).toArray 3 (0, 0))) : RowB w g zs := by
  refine ⟨_, h, ?_⟩
  have : (zs.map I).length = cur.length := by rw [List.length_map, hc, hM]
  rw [← hM, ← hc]
  simp only [splice, List.take_zero, List.nil_append, Nat.zero_add, this, List.drop_length, List.append_nil]
  rw [← this, List.take_length]
theorem made {w w1 : World} {M : Nat} {xs : List Value} (h : w1.ownsRow w.heap.size 3 1 (.slice (some ⟨w.heap.size, 0, none⟩) M M) M xs) (hg : w.grownBy w1 none) : ∃ cur : List Value, w1.heap[w.heap.size]? = some (.cells cur.toArray 3 (0, 0)) ∧ cur.length = M ∧ Below w.heap.size w w1 := by
  obtain ⟨_, ⟨hv, _⟩ | ⟨g, cap, cur, hv, _, hh, _, _, hs, _⟩⟩ := h
  · cases hv
  · simp at hv
    obtain ⟨rfl, rfl⟩ := hv
    exact ⟨cur.toList, by simpa using hh, by simpa using hs, ⟨hg.os, hg.tape, hg.output, hg.size, fun k hk => hg.block k hk (by simp)⟩⟩
/-- make([]int, n), as the walk meets it. -/
theorem wpL_make {ops : Array Oper} {rest : List Oper} {Q : Exit → Act → World → Prop} {a : Act} {w : World} {dd : Option Tmp} {l c : Operand} {tt : TypeId} {pos : String} {af : Array Edge} (M : Nat) (hM : M ≤ 1000)
    (hl : a.eval l = .int .i64 (M : Int)) (hc : a.eval c = .int .i64 (M : Int))
    (h : ∀ w1 (cur : List Value), w1.heap[w.heap.size]? = some (.cells cur.toArray 3 (0, 0)) → cur.length = M → Below w.heap.size w w1 → wpList Try.prog ops Q rest (a.put dd (.slice (some ⟨w.heap.size, 0, none⟩) M M)) w1) :
    wpList Try.prog ops Q ({ dst := dd, op := .makeSlice 35 l c, type := tt, pos := pos, after := af, guard := .none } :: rest) a w := by
  obtain ⟨i, hi, hz0, hz1, hz2⟩ := info_parts info3
  refine wpList_make_full w rfl l c 35 rfl w.heap.size 3 i (.int .i64 0) 1 Try.underlying35 hi hz0 hz1 .i64 .i64 _ _ M hl hc rfl rfl (by rw [hz2]; omega) (by simp only [maxLen]; omega) (Nat.le_refl _) ?_
  intro w1 ho hg
  obtain ⟨cur, hcur, hsz, hb1⟩ := made ho hg
  exact h w1 cur hcur hsz hb1
/-- copy(row, x) of as many, as the walk meets it. -/
theorem wpL_copy {ops : Array Oper} {rest : List Oper} {Q : Exit → Act → World → Prop} {a : Act} {w w0 : World} {dd : Option Tmp} {d x : Operand} {tt : TypeId} {pos : String} {af : Array Edge} (M g : Nat) (zs : List Int) (sv : Value) (cur : List Value) (hM : M = zs.length)
    (hd : a.eval d = .slice (some ⟨g, 0, none⟩) M M) (hx : a.eval x = sv) (hI : IntsAt .i64 w sv zs) (hcur : w.heap[g]? = some (.cells cur.toArray 3 (0, 0))) (hcl : cur.length = M) (hb : Below w0.heap.size w0 w) (hg : w0.heap.size ≤ g)
    (h : ∀ w1, RowB w1 g zs → Below w0.heap.size w0 w1 → wpList Try.prog ops Q rest (a.put dd (goInt (zs.map I).length)) w1) :
    wpList Try.prog ops Q ({ dst := dd, op := .call { callee := .builtin .copy, args := #[d, x], argTypes := #[35, 35] }, type := tt, pos := pos, after := af, guard := .none } :: rest) a w := by
  obtain ⟨p, cap, rfl, hc, hpn, hcell⟩ := hI
  refine wpList_copy_splice rfl d x 35 35 rfl 3 Try.underlying35 (by kernel_rfl) (some ⟨g, 0, none⟩) p M M zs.length cap hd hx g 0 cur 3 hcur (zs.map I) (by rw [List.length_map, hM]; exact (Nat.min_self _).symm) ?_ (by rw [List.length_map]; omega) ?_ w0.heap.size w0 hb hg ?_
  · intro hp
    rw [List.length_map] at hp
    obtain ⟨sb, so, rfl, hcl2⟩ := hcell (by intro h0; rw [h0] at hp; simp at hp)
    refine ⟨rfl, _, rfl, fun j v hv => ?_⟩
    have hj : j < zs.length := by have := (List.getElem?_eq_some_iff.1 hv).1; simpa using this
    rw [Addr.add_mid, hcl2 j hj, ← hv]
    simp [hj, I]
  · intro v hv
    obtain ⟨z, _, rfl⟩ := List.mem_map.1 hv
    rfl
  · intro w1 h1 h2
    exact h w1 (splice_whole hM hcl h1.out) h2
set_option maxHeartbeats 1000000 in
theorem shuffleNil_any (zs : List Int) (p : Option Addr) (M cap : Nat) (w : World) (hM : M = zs.length) (hI : IntsAt .i64 w (.slice p M cap) zs) (hl : M ≤ 1000) : Calls Try.prog 17 #[.pointer none, .slice p M cap] w fun e w' => OutC w M zs e w' := by
  have HI := hid (fun W (h : Below w.heap.size w W) => hI.below h)
  have HM := hid (fun (_ : Nat) => hM)
  clear hI hM
  go_enter Try.func17, Try.ntmps17
  go_wp2_with (first
    | (with_reducible refine wpL_make M hl (by go_simp) (by go_simp) ?_; intro w1 cur hcur hcl hb1; have HCUR := hid hcur; have HCL := hid (fun (_ : Nat) => hcl); have HB1 := hid hb1; clear hcur hcl hb1)
    | (with_reducible refine wpL_copy (w0 := w) M w.heap.size zs (.slice p M cap) cur (HM.out 0) (by go_simp) (by go_simp) (HI.out _ HB1.out) HCUR.out (HCL.out 0) HB1.out (Nat.le_refl _) ?_; intro w2 hr hb2; have HR := hid hr; have HB2 := hid hb2; clear hr hb2))
  go_ret
  exact ⟨rfl, HR.out, HB2.out⟩
end Go.Proofs.Ytlnbhgpijdjpmaa
