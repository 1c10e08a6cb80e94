/- Writing: what grows at the end of bytes leaves all else as it was. -/
import Derived.Test.YtpiflgbcbhnmpaaRrep
import Derived.Maps.AppendAt
namespace Go.Proofs.Ytpiflgbcbhnmpaa
open Go.RowKit
attribute [local go_sem ↓] bits_or128
/-- From the slice v a slice v' has been made: nothing else has turned that was there. -/
structure Gro (w : World) (v : Value) (w' : World) (v' : Value) : Prop where
  os : w'.os = w.os
  tape : w'.tape = w.tape
  output : w'.output = w.output
  size : w.heap.size ≤ w'.heap.size
  block : ∀ k, k < w.heap.size → v.ownBlock ≠ some k → w'.heap[k]? = w.heap[k]?
  pl : v'.ownBlock = v.ownBlock ∨ ∀ k, v'.ownBlock = some k → w.heap.size ≤ k
theorem Gro.refl (w : World) (v : Value) : Gro w v w v := ⟨rfl, rfl, rfl, Nat.le_refl _, fun _ _ _ => rfl, Or.inl rfl⟩
theorem Gro.trans {a b c : World} {u v x : Value} (h : Gro a u b v) (k : Gro b v c x) : Gro a u c x := by
  refine ⟨k.os.trans h.os, k.tape.trans h.tape, k.output.trans h.output, Nat.le_trans h.size k.size, fun i hi hn => ?_, ?_⟩
  · rw [k.block i (Nat.lt_of_lt_of_le hi h.size) (fun he => ?_)]
    · exact h.block i hi hn
    · rcases h.pl with h1 | h1
      · rw [h1] at he; exact hn he
      · have := h1 i he; omega
  · rcases k.pl with k1 | k1
    · rcases h.pl with h1 | h1
      · exact Or.inl (k1.trans h1)
      · exact Or.inr (fun i hi => h1 i (by rw [← k1]; exact hi))
    · exact Or.inr (fun i hi => Nat.le_trans h.size (k1 i hi))
theorem Gro.alloc {a b : World} {u v : Value} (h : Gro a u b v) (o : Obj) : Gro a u (b.alloc o) v :=
  h.trans ⟨rfl, rfl, rfl, by simp, fun k hk _ => Below.heap_alloc b o k hk, Or.inl rfl⟩
theorem Gro.keep {a b c : World} {u v : Value} (h : Gro a u b v) (hb : Below b.heap.size b c) : Gro a u c v :=
  h.trans ⟨hb.os, hb.tape, hb.output, hb.size, fun k hk _ => hb.block k hk, Or.inl rfl⟩
theorem Gro.drew {a b : World} {u v : Value} (h : Gro a u b v) : Gro a u b.drew v := ⟨h.os, h.tape, h.output, h.size, h.block, h.pl⟩
theorem Gro.below {a b : World} {u v : Value} {xs : List Nat} {base : Nat} (h : Gro a u b v) (ho : OwnB a base u xs) (hb : base ≤ a.heap.size) : Below base a b :=
  ⟨h.os, h.tape, h.output, h.size, fun k hk => h.block k (by omega) (fun he => by have := (ho.block k he).1; omega)⟩
/-- A block that isn't the slice's own stays. -/
theorem Gro.blk {a b : World} {u v : Value} (h : Gro a u b v) {g : Nat} {l : List Value} {t : TypeId} (hl : Blk a g l t) (hn : u.ownBlock ≠ some g) : Blk b g l t := by
  have := hl.lt
  unfold Blk at *
  rw [h.block g this hn]; exact hl
theorem wpL_appendN {ops : Array Oper} {rest : List Oper} {Q : Exit → Act → World → Prop} {a : Act} {w : World} {dd : Option Tmp} {s x : Operand} {tt : TypeId} {pos : String} {af : Array Edge} (base : Nat) (v sv : Value) (xs bs : List Nat) (N : Nat) (hne : bs ≠ []) (hN : xs.length + bs.length = N)
    (hs : a.eval s = v) (hx : a.eval x = sv) (ho : OwnB w base v xs) (hb : BytesAt w sv bs) (hsz : N ≤ 1099511627776) (hbase : base ≤ w.heap.size)
    (h : ∀ p cap w', OwnB w' base (.slice p N cap) (xs ++ bs) → Gro w v w' (.slice p N cap) → wpList Try.prog ops Q rest (a.put dd (.slice p N cap)) w') :
    wpList Try.prog ops Q ({ dst := dd, op := .call { callee := .builtin .append, args := #[s, x], argTypes := #[23, 23] }, type := tt, pos := pos, after := af, guard := .none } :: rest) a w := by
  subst hN
  obtain ⟨i, hi, hz0, hz1, hz2⟩ := info_parts info5
  obtain ⟨p, cap, rfl, hc, hpn, hcell⟩ := hb
  obtain ⟨sb, so, rfl, hcl⟩ := hcell hne
  refine wpList_append_own_at w rfl s x 23 rfl base 5 i (.int .u8 0) 1 1 Try.underlying23 hi hz0 hz1 hz2 rfl (by omega) v xs.length (xs.map By) hs ho ⟨sb, so, .none⟩ bs.length cap (bs.map By) hx (by simp) ?_ (mapBy_one bs) (by simp only [maxLen]; omega) (by omega) hbase ?_
  · intro j u hu
    have hj : j < bs.length := by have := (List.getElem?_eq_some_iff.1 hu).1; simpa using this
    rw [Addr.add_mid, hcl j hj, ← hu]
    simp [hj]
  · intro v' w' ho' hg hnil hat
    have ho'' : OwnB w' base v' (xs ++ bs) := by unfold OwnB; rw [List.map_append, List.length_append]; exact ho'
    obtain ⟨p', cap', rfl⟩ := ho''.form
    rw [List.length_append] at ho'' hat ⊢
    refine h p' cap' w' ho'' ⟨hg.os, hg.tape, hg.output, hg.size, fun k hk hn => hg.block k hk (fun he => hn he.symm), ?_⟩
    rcases hat with hat | hat
    · exact Or.inl hat
    · exact Or.inr (fun k hk => by rw [hat] at hk; cases hk; exact Nat.le_refl _)
/-- Bytes of the call's own, grown from v. -/
def OutG (w : World) (v : Value) (base : Nat) (L : List Nat) (e : Ending) (w' : World) : Prop := ∃ p N cap, N = L.length ∧ e = .returned (.slice p N cap) ∧ OwnB w' base (.slice p N cap) L ∧ Gro w v w' (.slice p N cap)
set_option maxHeartbeats 1000000 in
theorem appendSevens44 (n : Nat) (hn : n < 18446744073709551616) (xs : List Nat) (base : Nat) (p : Option Addr) (M cap : Nat) (w : World) (hM : M = xs.length) (ho : OwnB w base (.slice p M cap) xs) (hbase : base ≤ w.heap.size) (hsz : M < 1000000000000) :
    Calls Try.prog 44 #[.slice p M cap, .int .u64 (n : Int)] w fun e w' => OutG w (.slice p M cap) base (xs ++ sev n) e w' := by
  have hl10 := sev_len10 hn
  obtain ⟨v0, hv0⟩ : ∃ v0, v0 = Value.slice p M cap := ⟨_, rfl⟩
  have HV0 := hid hv0
  have HMM := hid hM
  clear hv0
  go_enter Try.func44, Try.ntmps44
  go_wp2
  go_loopw [0, 1] (fun v nv wr => ∃ p N c ys m, v = .slice p N c ∧ nv = .int .u64 (m : Nat) ∧ m < 18446744073709551616 ∧ Hid (N = ys.length) ∧ N ≤ M + 10 ∧ Hid (xs ++ sev n = ys ++ sev m) ∧ Hid (OwnB wr base (.slice p N c) ys) ∧ Hid (Gro w v0 wr (.slice p N c)) ∧ base ≤ wr.heap.size) (fun _ nv _ => natOf nv)
  case atStart => exact ⟨p, M, cap, xs, n, rfl, rfl, hn, hM, by omega, rfl, ho, by rw [HV0.out]; exact Gro.refl _ _, hbase⟩
  case round =>
    obtain ⟨p, N, c, ys, m, rfl, rfl, hm, hN, hNM, he, HO, hgr, hszr⟩ := hrel
    clear ho
    have hsy : ys.length + (sev m).length ≤ M + 10 := by have := congrArg List.length he.out; simp at this; omega
    by_cases h128 : m < 128
    · have e1 : ¬ (128 : Int) ≤ (m : Int) := by omega
      have e2 : (m : Int) % 256 = (m : Int) := by omega
      have hB5 : BytesAt (wr.alloc (.cells #[Value.int .u8 (m : Int)] 5)) (.slice (some ⟨wr.heap.size, 0, none⟩) 1 1) [m] := bytes_one _ _ m rfl
      have hO5 : OwnB (wr.alloc (.cells #[Value.int .u8 (m : Int)] 5)) base (.slice p N c) ys := HO.out.below ((Below.refl _ _).alloc (Nat.le_refl _) _)
      have hgr5 := hid (hgr.out.alloc (.cells #[Value.int .u8 (m : Int)] 5))
      rw [sev_lt h128] at he
      have hN5 : ys.length + [m].length = N + 1 := by have := hN.out; simp; omega
      have hNN : N + 1 ≤ 1099511627776 := by omega
      clear HO hsy
      go_wp2_with (first
        | ((with_reducible refine wpL_appendN base (.slice p N c) (.slice (some ⟨wr.heap.size, 0, none⟩) 1 1) ys [m] (N + 1) (by simp) hN5 ?_ ?_ hO5 hB5 hNN (by simp; omega) ?_); (rfl); (rfl); (intro pm cm w5 hO6 hg6); (simp only [Act.put, List.setIfInBounds_toArray, List.set_cons_zero, List.set_cons_succ])))
      go_ret
      rw [he.out]
      exact ⟨pm, N + 1, cm, by have := hN.out; simp; omega, rfl, hO6, by
        have h9 := hgr5.out.trans hg6
        rw [HV0.out] at h9
        first
          | exact h9
          | (rw [HMM.out] at h9; exact h9)⟩
    · have e1 : (128 : Int) ≤ (m : Int) := by omega
      have hB5 : BytesAt (wr.alloc (.cells #[Value.int .u8 ((m : Int) % 128 + 128)] 5)) (.slice (some ⟨wr.heap.size, 0, none⟩) 1 1) [m % 128 + 128] := bytes_one _ _ _ (by simp [By])
      have hO5 : OwnB (wr.alloc (.cells #[Value.int .u8 ((m : Int) % 128 + 128)] 5)) base (.slice p N c) ys := HO.out.below ((Below.refl _ _).alloc (Nat.le_refl _) _)
      have hgr5 := hid (hgr.out.alloc (.cells #[Value.int .u8 ((m : Int) % 128 + 128)] 5))
      rw [sev_ge h128] at he hsy
      have hN5 : ys.length + [m % 128 + 128].length = N + 1 := by have := hN.out; simp; omega
      have hNN : N + 1 ≤ 1099511627776 := by omega
      have hNe : N + 1 ≤ M + 10 := by have := hN.out; simp at hsy; omega
      clear HO hsy
      go_wp2_with (first
        | ((with_reducible refine wpL_appendN base (.slice p N c) (.slice (some ⟨wr.heap.size, 0, none⟩) 1 1) ys [m % 128 + 128] (N + 1) (by simp) hN5 ?_ ?_ hO5 hB5 hNN (by simp; omega) ?_); (rfl); (rfl); (intro pm cm w5 hO6 hg6); (simp only [Act.put, List.setIfInBounds_toArray, List.set_cons_zero, List.set_cons_succ])))
      go_roundw
      case rel => exact ⟨pm, N + 1, cm, ys ++ [m % 128 + 128], m / 128, rfl, by simp, by omega, by have := hN.out; show _ = _; simp; omega, hNe, by rw [List.append_assoc]; exact he, hO6, hgr5.out.trans hg6, by have := hg6.size; simp at this; omega⟩
      case measure => simp [natOf]; omega
set_option maxRecDepth 100000 in
theorem appendInt85 (n : Nat) (hn : n < 9223372036854775808) (xs : List Nat) (base : Nat) (p : Option Addr) (M cap : Nat) (w : World) (hM : M = xs.length) (ho : OwnB w base (.slice p M cap) xs) (hbase : base ≤ w.heap.size) (hsz : M < 1000000000000) :
    Calls Try.prog 85 #[.slice p M cap, .int .i64 (n : Int)] w fun e w' => OutG w (.slice p M cap) base (xs ++ sev n) e w' := by
  have hc := hid (appendSevens44 n (by omega) xs base p M cap w hM ho hbase hsz)
  clear ho hM
  generalize xs ++ sev n = L at *
  go_enter Try.func85, Try.ntmps85
  go_wp2_with fail
  refine Calls.mono hc.out ?_
  rintro e w1 ⟨p1, N1, c1, hN1, rfl, ho1, hg1⟩
  have HN1 := hid hN1
  clear hN1
  go_wp2_with fail
  go_ret
  exact ⟨p1, N1, c1, HN1.out, rfl, ho1, hg1⟩
end Go.Proofs.Ytpiflgbcbhnmpaa
