/- The reference's table: Insert, Set, Remove. -/
import Derived.Test.YtdagkeklfhlcnaaAt
import Derived.Test.YtdagkeklfhlcnaaPlan
import Derived.Deep.RegionLaw
namespace Go.Proofs.Ytdagkeklfhlcnaa
open Go.RowKit
theorem OwnE.block {w : World} {base : Nat} {v : Value} {es : List (List Int)} (h : OwnE w base v es) : ∀ k, v.ownBlock = some k → base ≤ k ∧ k < w.heap.size := by
  intro k hk
  obtain ⟨⟨_, ⟨rfl, hn⟩ | ⟨g, cap, cur, rfl, hg, hh, _⟩⟩, _⟩ := h
  · simp [Value.ownBlock] at hk
  · simp [Value.ownBlock] at hk
    subst hk
    exact ⟨hg, (Array.getElem?_eq_some_iff.1 hh).1⟩
theorem OwnE.stay {w w' : World} {base : Nat} {v : Value} {es : List (List Int)} (h : OwnE w base v es) (hs : ∀ k, v.ownBlock = some k → w'.heap[k]? = w.heap[k]?) : OwnE w' base v es := by
  obtain ⟨⟨h1, ⟨rfl, hn⟩ | ⟨g, cap, cur, rfl, hg, hh, r⟩⟩, he⟩ := h
  · exact ⟨⟨h1, Or.inl ⟨rfl, hn⟩⟩, he⟩
  · exact ⟨⟨h1, Or.inr ⟨g, cap, cur, rfl, hg, by rw [hs g rfl]; exact hh, r⟩⟩, he⟩
/-- append of entities onto a slice of the call's own. -/
theorem wpL_appendEs {ops : Array Oper} {rest : List Oper} {Q : Exit → Act → World → Prop} {a : Act} {w : World} {dd : Option Tmp} {s x : Operand} {tt : TypeId} {pos : String} {af : Array Edge} (base : Nat) (v : Value) (xs : List (List Int)) (ad : Addr) (m c : Nat) (es : List (List Int))
    (hs : a.eval s = v) (hx : a.eval x = .slice (some ad) m c) (hm : m = es.length) (he : Elev es) (ho : OwnE w base v xs) (hb : ∀ j u, (fl es)[j]? = some u → w.cell? (ad.add j) = some u) (hsz : xs.length + m ≤ 2000000) (hbase : base ≤ w.heap.size)
    (h : ∀ v' w', OwnE w' base v' (xs ++ es) → w.heap.size ≤ w'.heap.size → w'.os = w.os → w'.tape = w.tape → w'.output = w.output → (∀ k, k < w.heap.size → v.ownBlock ≠ some k → w'.heap[k]? = w.heap[k]?) → (v'.ownBlock = v.ownBlock ∨ v'.ownBlock = some w.heap.size) → wpList Try.prog ops Q rest (a.put dd v') w') :
    wpList Try.prog ops Q ({ dst := dd, op := .call { callee := .builtin .append, args := #[s, x], argTypes := #[36, 36] }, type := tt, pos := pos, after := af, guard := .none } :: rest) a w := by
  subst hm
  obtain ⟨i, hi, hz0, hz1, hz2⟩ := info_parts info32
  refine wpList_append_own_at w rfl s x 36 rfl base 32 i _ 11 88 Try.underlying36 hi hz0 hz1 hz2 rfl (by omega) v xs.length (fl xs) hs ho.1 ad es.length c (fl es) hx (fl_length he) hb (fl_one es) (by simp only [maxLen]; omega) (by omega) hbase ?_
  intro v' w' ho' hg hnil hat
  refine h v' w' ⟨by rw [List.length_append, fl_append]; exact ho', Elev.append.2 ⟨ho.2, he⟩⟩ hg.size hg.os hg.tape hg.output (fun k hk hn => hg.block k hk (fun e => hn e.symm)) hat
/-- What an Insert of the reference leaves. -/
def OutRIns (w : World) (r : Nat) (l : List (List Int)) (nx : Int) (e : List Int) (q : Ending) (w' : World) : Prop := q = .returned (.tuple #[.int .i64 nx, .int .i64 0]) ∧ Rf w' r (l ++ [e.set 0 nx]) (nx + 1) ∧ Below r w w' ∧ Rkeep r w w'
set_option maxHeartbeats 2000000 in
theorem rinsFull_any (r : Nat) (l : List (List Int)) (nx : Int) (e : List Int) (he : e.length = 11) (w : World) (h : Rf w r l nx) (hs : l.length ≤ 1000000) (hf : 40 ≤ l.length) : Calls Try.prog 21 #[P r, E e] w fun q w' => OutFull w q w' := by
  obtain ⟨z0, z1, z2, z3, z4, z5, z6, z7, z8, z9, z10, rfl⟩ := eleven he
  obtain ⟨v, hb, ho⟩ := h
  obtain ⟨p, cap, rfl⟩ := ho.form
  obtain ⟨W, hW⟩ : ∃ W, W = w.alloc (.cells #[Value.int .i64 z0, .int .i64 z1, .int .i64 z2, .int .i64 z3, .int .i64 z4, .int .i64 z5, .int .i64 z6, .int .i64 z7, .int .i64 z8, .int .i64 z9, .int .i64 z10] 32) := ⟨_, rfl⟩
  have HBW : Hid (Below w.heap.size w W) := by rw [hW]; exact (Below.refl _ _).alloc (Nat.le_refl _) _
  have c0 : W.cell? ⟨r, 0, none⟩ = some (.slice p l.length cap) := (hb.below HBW.out hb.lt).cell 0
  have hn : (40 : Int) ≤ (l.length : Int) := by omega
  unfold E OutFull
  unfold P at *
  simp only [List.map_cons, List.map_nil, I]
  generalize l.length = N at *
  clear hb ho
  go_enter Try.func21, Try.ntmps21
  go_upto_region 1 with fail
  rw [← hW]
  clear hW
  go_wp2
  go_ret2
  exact ⟨rfl, HBW.out⟩
set_option maxHeartbeats 4000000 in
theorem rins_any (r : Nat) (l : List (List Int)) (nx : Int) (e : List Int) (he : e.length = 11) (w : World) (h : Rf w r l nx) (hl : l.length < 40) (hp : 0 ≤ nx ∧ nx < 2147483647) : Calls Try.prog 21 #[P r, E e] w fun q w' => OutRIns w r l nx e q w' := by
  obtain ⟨z0, z1, z2, z3, z4, z5, z6, z7, z8, z9, z10, rfl⟩ := eleven he
  have HRL := hid h.lt
  obtain ⟨v, hb, ho⟩ := h
  obtain ⟨p, cap, rfl⟩ := ho.form
  obtain ⟨W, hW⟩ : ∃ W, W = w.alloc (.cells #[Value.int .i64 z0, .int .i64 z1, .int .i64 z2, .int .i64 z3, .int .i64 z4, .int .i64 z5, .int .i64 z6, .int .i64 z7, .int .i64 z8, .int .i64 z9, .int .i64 z10] 32) := ⟨_, rfl⟩
  obtain ⟨g, hg⟩ : ∃ g, g = w.heap.size := ⟨_, rfl⟩
  have HG := hid (fun (_ : Nat) => hg)
  have HBW : Hid (Below w.heap.size w W) := by rw [hW]; exact (Below.refl _ _).alloc (Nat.le_refl _) _
  have HGW : Hid (Blk W g [.int .i64 z0, .int .i64 z1, .int .i64 z2, .int .i64 z3, .int .i64 z4, .int .i64 z5, .int .i64 z6, .int .i64 z7, .int .i64 z8, .int .i64 z9, .int .i64 z10] 32) := by rw [hW, hg]; exact Blk.new _ _ _
  have HRW := hid (hb.below HBW.out hb.lt)
  have c0 : W.cell? ⟨r, 0, none⟩ = some (.slice p l.length cap) := HRW.out.cell 0
  have c1 : W.cell? ⟨r, 1, none⟩ = some (.int .i64 nx) := HRW.out.cell 1
  have HOW : Hid (OwnE W (r + 1) (.slice p l.length cap) l) := ho.keep fun k _ hk => HBW.out.block k hk
  have g0 : W.cell? ⟨g, 0, none⟩ = some (.int .i64 z0) := HGW.out.cell 0
  have gf := HGW.out.frozen 0
  have hn : ((40 : Int) ≤ (l.length : Int)) = False := by simp; omega
  have hn1 : (nx == 2147483647) = false := by simp; omega
  have hn2 : nx ≤ 2147483646 := by omega
  have hn3 : 0 ≤ nx := hp.1
  have hrg : r ≠ g := by have := HRL.out; omega
  unfold E OutRIns
  unfold P at *
  simp only [List.map_cons, List.map_nil, I]
  obtain ⟨N, hN⟩ : ∃ N, N = l.length := ⟨_, rfl⟩
  have HN := hid (fun (_ : Nat) => hN)
  rw [← hN] at c0 hn HRW HOW
  have HVB : Hid (∀ k, (Value.slice p N cap).ownBlock = some k → r + 1 ≤ k ∧ k < w.heap.size) := by rw [hN]; exact ho.block
  have HNL : Hid (N ≤ 40) := by rw [hN]; exact hid (by omega)
  have HRw : Hid (Blk w r [.slice p N cap, .int .i64 nx] 38) := by rw [hN]; exact hb
  clear hb ho hp hN hl he
  go_enter Try.func21, Try.ntmps21
  go_upto_region 1 with fail
  rw [← hW, ← hg]
  clear hW hg
  go_upto_region 4 with fail
  obtain ⟨W3, hW3⟩ : ∃ W3, W3 = W.setCell ⟨g, 0, none⟩ (.int .i64 nx) := ⟨_, rfl⟩
  rw [← hW3]
  have HG3 : Hid (Blk W3 g [.int .i64 nx, .int .i64 z1, .int .i64 z2, .int .i64 z3, .int .i64 z4, .int .i64 z5, .int .i64 z6, .int .i64 z7, .int .i64 z8, .int .i64 z9, .int .i64 z10] 32) := by rw [hW3]; exact HGW.out.set 0 _
  have HR3 : Hid (Blk W3 r [.slice p N cap, .int .i64 nx] 38) := by rw [hW3]; exact HRW.out.set_ne _ hrg _
  have HB3 : Hid (Below w.heap.size w W3) := by rw [hW3]; exact HBW.out.setCell (by have := HG.out 0; show _ ≤ g; omega) _
  have HO3 : Hid (OwnE W3 (r + 1) (.slice p N cap) l) := by
    rw [hW3]
    exact HOW.out.stay fun k hk => Below.heap_setCell _ _ _ _ (by have := (HVB.out k hk).2; have := HG.out 0; show k ≠ g; omega)
  clear hW3 c0 c1 g0 gf HGW HRW HBW HOW
  have c0 : W3.cell? ⟨r, 0, none⟩ = some (.slice p N cap) := HR3.out.cell 0
  have g0 : W3.cell? ⟨g, 0, none⟩ = some (.int .i64 nx) := HG3.out.cell 0
  have g1 : W3.cell? ⟨g, 1, none⟩ = some (.int .i64 z1) := HG3.out.cell 1
  have g2 : W3.cell? ⟨g, 2, none⟩ = some (.int .i64 z2) := HG3.out.cell 2
  have g3 : W3.cell? ⟨g, 3, none⟩ = some (.int .i64 z3) := HG3.out.cell 3
  have g4 : W3.cell? ⟨g, 4, none⟩ = some (.int .i64 z4) := HG3.out.cell 4
  have g5 : W3.cell? ⟨g, 5, none⟩ = some (.int .i64 z5) := HG3.out.cell 5
  have g6 : W3.cell? ⟨g, 6, none⟩ = some (.int .i64 z6) := HG3.out.cell 6
  have g7 : W3.cell? ⟨g, 7, none⟩ = some (.int .i64 z7) := HG3.out.cell 7
  have g8 : W3.cell? ⟨g, 8, none⟩ = some (.int .i64 z8) := HG3.out.cell 8
  have g9 : W3.cell? ⟨g, 9, none⟩ = some (.int .i64 z9) := HG3.out.cell 9
  have g10 : W3.cell? ⟨g, 10, none⟩ = some (.int .i64 z10) := HG3.out.cell 10
  have HSZ : Hid ((W3.alloc (.cells #[Value.int .i64 nx, .int .i64 z1, .int .i64 z2, .int .i64 z3, .int .i64 z4, .int .i64 z5, .int .i64 z6, .int .i64 z7, .int .i64 z8, .int .i64 z9, .int .i64 z10] 32)).drew.heap.size = W3.heap.size + 1) := by show (W3.alloc _).heap.size = _; simp
  have HB4 : Hid (Below w.heap.size w (W3.alloc (.cells #[Value.int .i64 nx, .int .i64 z1, .int .i64 z2, .int .i64 z3, .int .i64 z4, .int .i64 z5, .int .i64 z6, .int .i64 z7, .int .i64 z8, .int .i64 z9, .int .i64 z10] 32)).drew) := Below.drewN (HB3.out.alloc HB3.out.size _) 1
  have HR4 : Hid (Blk (W3.alloc (.cells #[Value.int .i64 nx, .int .i64 z1, .int .i64 z2, .int .i64 z3, .int .i64 z4, .int .i64 z5, .int .i64 z6, .int .i64 z7, .int .i64 z8, .int .i64 z9, .int .i64 z10] 32)).drew r [.slice p N cap, .int .i64 nx] 38) := (HR3.out.alloc _).drew
  have HG4 : Hid (Blk (W3.alloc (.cells #[Value.int .i64 nx, .int .i64 z1, .int .i64 z2, .int .i64 z3, .int .i64 z4, .int .i64 z5, .int .i64 z6, .int .i64 z7, .int .i64 z8, .int .i64 z9, .int .i64 z10] 32)).drew g [.int .i64 nx, .int .i64 z1, .int .i64 z2, .int .i64 z3, .int .i64 z4, .int .i64 z5, .int .i64 z6, .int .i64 z7, .int .i64 z8, .int .i64 z9, .int .i64 z10] 32) := (HG3.out.alloc _).drew
  have HN4 : Hid (∀ j u, (fl [[nx, z1, z2, z3, z4, z5, z6, z7, z8, z9, z10]])[j]? = some u → (W3.alloc (.cells #[Value.int .i64 nx, .int .i64 z1, .int .i64 z2, .int .i64 z3, .int .i64 z4, .int .i64 z5, .int .i64 z6, .int .i64 z7, .int .i64 z8, .int .i64 z9, .int .i64 z10] 32)).drew.cell? ((⟨W3.heap.size, 0, none⟩ : Addr).add j) = some u) := fun j u hu => by
    rw [Addr.add_mid, Nat.zero_add, (Blk.new W3 [.int .i64 nx, .int .i64 z1, .int .i64 z2, .int .i64 z3, .int .i64 z4, .int .i64 z5, .int .i64 z6, .int .i64 z7, .int .i64 z8, .int .i64 z9, .int .i64 z10] 32).drew.cell j]; exact hu
  have HO4 : Hid (OwnE (W3.alloc (.cells #[Value.int .i64 nx, .int .i64 z1, .int .i64 z2, .int .i64 z3, .int .i64 z4, .int .i64 z5, .int .i64 z6, .int .i64 z7, .int .i64 z8, .int .i64 z9, .int .i64 z10] 32)).drew (r + 1) (.slice p N cap) l) := HO3.out.keep fun k _ hk => Below.heap_alloc W3 _ k hk
  have HLN : Hid (l.length + 1 ≤ 2000000) := by have := HNL.out; have := HN.out 0; exact hid (by omega)
  have HBS : Hid (r + 1 ≤ (W3.alloc (.cells #[Value.int .i64 nx, .int .i64 z1, .int .i64 z2, .int .i64 z3, .int .i64 z4, .int .i64 z5, .int .i64 z6, .int .i64 z7, .int .i64 z8, .int .i64 z9, .int .i64 z10] 32)).drew.heap.size) := by have := HRL.out; have := HB4.out.size; exact hid (by omega)
  have hnx1 : nx + 1 ≤ 9223372036854775807 := by omega
  have c04 : (W3.alloc (.cells #[Value.int .i64 nx, .int .i64 z1, .int .i64 z2, .int .i64 z3, .int .i64 z4, .int .i64 z5, .int .i64 z6, .int .i64 z7, .int .i64 z8, .int .i64 z9, .int .i64 z10] 32)).cell? ⟨r, 0, none⟩ = some (.slice p N cap) := (HR3.out.alloc _).cell 0
  clear HR3 HG3 HB3 HO3 hn2
  go_region_law (rw [if_pos (by rfl)]; refine turn_of_list (ops := #[]) rfl ?_; refine wpL_appendEs (r + 1) (.slice p N cap) l ⟨W3.heap.size, 0, none⟩ 1 1 [[nx, z1, z2, z3, z4, z5, z6, z7, z8, z9, z10]] rfl rfl rfl (Elev.cons.2 ⟨rfl, fun _ h => by cases h⟩) HO4.out HN4.out HLN.out HBS.out ?_; intro v' w5 ho5 hs5 he1 he2 he3 hk5 hv5; clear hv5; obtain ⟨p5, c5, rfl⟩ := OwnE.form ho5; generalize (l ++ [[nx, z1, z2, z3, z4, z5, z6, z7, z8, z9, z10]]).length = N5 at *; have hr5 : Hid (Blk w5 r [.slice p N cap, .int .i64 nx] 38) := (by have h1 := HR4.out; have h2 := h1.lt; unfold Blk at *; rw [hk5 r h2 (fun e => by have := (HVB.out r e).1; omega)]; exact hid h1); have hg5 : Hid (Blk w5 g [.int .i64 nx, .int .i64 z1, .int .i64 z2, .int .i64 z3, .int .i64 z4, .int .i64 z5, .int .i64 z6, .int .i64 z7, .int .i64 z8, .int .i64 z9, .int .i64 z10] 32) := (by have h1 := HG4.out; have h2 := h1.lt; unfold Blk at *; rw [hk5 g h2 (fun e => by have := (HVB.out g e).2; have := HG.out 0; omega)]; exact hid h1); have hb5 : Hid (Below r w w5) := (⟨he1.trans HB4.out.os, he2.trans HB4.out.tape, he3.trans HB4.out.output, Nat.le_trans HB4.out.size hs5, fun k hk => by rw [hk5 k (by have := HBS.out; omega) (fun e => by have := (HVB.out k e).1; omega)]; exact HB4.out.block k (by have := HRL.out; omega)⟩); have HKK := (hid (fun k (hk : k < w.heap.size) hn => (hk5 k (Nat.lt_of_lt_of_le hk HB4.out.size) hn).trans (HB4.out.block k hk))); have HO5 := hid ho5; clear hk5 hs5 he1 he2 he3 ho5; have d0 := hr5.out.cell 0; have d1 := hr5.out.cell 1; have d2 := hr5.out.frozen 0; have d3 := hr5.out.frozen 1; have d4 := hg5.out.cell 0; simp only [List.getElem?_cons_zero, List.getElem?_cons_succ] at d0 d1 d4; refine ⟨rfl, ?_⟩)
  all_goals
    go_wp2
    go_ret2
    refine ⟨rfl, ⟨_, (hr5.out.set 0 _).set 1 _, HO5.out.keep fun k hk _ => ?_⟩, ?_, Rkeep.mk HRw.out fun k h1 h2 h3 => ?_⟩
    · rw [Below.heap_setCell _ _ _ _ (by show k ≠ r; omega), Below.heap_setCell _ _ _ _ (by show k ≠ r; omega)]
    · exact ((hb5.out.setCell (Nat.le_refl _) _).setCell (Nat.le_refl _) _)
    · rw [Below.heap_setCell _ _ _ _ h1, Below.heap_setCell _ _ _ _ h1]; exact HKK.out k h3 h2
end Go.Proofs.Ytdagkeklfhlcnaa
