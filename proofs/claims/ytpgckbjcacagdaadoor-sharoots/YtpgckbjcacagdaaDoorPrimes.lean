/- What Primes answers at 64: the first 64 prime numbers. -/
import Derived.Test.YtpgckbjcacagdaaDoorTimes
import Derived.Laws.AppendOwnNone
namespace Go.Proofs.YtpgckbjcacagdaaDoor
open Go.RowKit
/-- v is the call's own slice of the numbers xs. -/
def OwnQ (w : World) (base : Nat) (v : Value) (xs : List Nat) : Prop := w.ownsRow base 39 1 v xs.length (xs.map LV)
theorem info39 : (Tryd.prog.info? 39).map (fun i => (i.zero, i.size, i.bytes)) = some (some (.int .u64 0), 1, 8) := by kernel_rfl
theorem OwnQ.nil (w : World) (base : Nat) : OwnQ w base (.slice none 0 0) [] := ⟨rfl, Or.inl ⟨rfl, rfl⟩⟩
theorem OwnQ.form {w : World} {base : Nat} {v : Value} {xs : List Nat} (h : OwnQ w base v xs) : ∃ p cap, v = .slice p xs.length cap := by
  obtain ⟨_, ⟨rfl, hn⟩ | ⟨g, cap, cur, rfl, _⟩⟩ := h
  · exact ⟨_, _, by rw [hn]⟩
  · exact ⟨_, _, rfl⟩
theorem OwnQ.cells {w : World} {base N cap : Nat} {p : Option Addr} {xs : List Nat} (h : OwnQ w base (.slice p N cap) xs) (hne : xs ≠ []) : ∃ g, p = some ⟨g, 0, none⟩ ∧ ∀ (i x : Nat), xs[i]? = some x → w.cell? ⟨g, i, none⟩ = some (.int .u64 (x : Int)) := by
  obtain ⟨_, ⟨_, hn⟩ | ⟨g, cap, cur, he, hg, hh, hc, hm, hcs, ht⟩⟩ := h
  · exact absurd (List.eq_nil_of_length_eq_zero hn) hne
  · simp at he
    obtain ⟨rfl, _, _⟩ := he
    refine ⟨g, rfl, fun i x hx => ?_⟩
    have hi : i < xs.length := (List.getElem?_eq_some_iff.1 hx).1
    rw [cell_of_row _ _ _ _ _ _ hh]
    rw [Nat.mul_one] at ht
    have e : (cur.toList.take xs.length)[i]? = (xs.map LV)[i]? := by rw [ht]
    rw [List.getElem?_take, if_pos hi] at e
    rw [← Array.getElem?_toList, e]
    simp [hx]
theorem OwnQ.block {w : World} {base : Nat} {v : Value} {xs : List Nat} (h : OwnQ w base v xs) : ∀ k, v.ownBlock = some k → base ≤ k ∧ k < w.heap.size := by
  intro k hk
  obtain ⟨_, ⟨rfl, hn⟩ | ⟨g, cap, cur, rfl, hg, hh, _⟩⟩ := h
  · simp [Value.ownBlock] at hk
  · simp [Value.ownBlock] at hk
    subst hk
    exact ⟨hg, (Array.getElem?_eq_some_iff.1 hh).1⟩
theorem OwnQ.below {w w' : World} {base : Nat} {v : Value} {xs : List Nat} (h : OwnQ w base v xs) (hb : Below w.heap.size w w') : OwnQ w' base v xs := by
  have hbl := h.block
  obtain ⟨h1, ⟨rfl, hn⟩ | ⟨g, cap, cur, rfl, hg, hh, r⟩⟩ := h
  · exact ⟨h1, Or.inl ⟨rfl, hn⟩⟩
  · exact ⟨h1, Or.inr ⟨g, cap, cur, rfl, hg, by rw [hb.block g (hbl g rfl).2]; exact hh, r⟩⟩
/-- append(s, x), one number more. -/
theorem wpL_appendQ {ops : Array Oper} {rest : List Oper} {Q : Exit → Act → World → Prop} {a : Act} {w : World} {dd : Option Tmp} {s x : Operand} {tt : TypeId} {pos : String} {af : Array Edge} (base : Nat) (v : Value) (xs : List Nat) (y N q : Nat)
    (hN : xs.length = N) (hs : a.eval s = v) (hx : a.eval x = .slice (some ⟨q, 0, none⟩) 1 1) (ho : OwnQ w base v xs) (hq : w.cell? ⟨q, 0, none⟩ = some (.int .u64 (y : Int))) (hsz : N < 1000000) (hbase : base ≤ w.heap.size)
    (h : ∀ p cap w', OwnQ w' base (.slice p (N + 1) cap) (xs ++ [y]) → Below base w w' → wpList Tryd.prog ops Q rest (a.put dd (.slice p (N + 1) cap)) w') :
    wpList Tryd.prog ops Q ({ dst := dd, op := .call { callee := .builtin .append, args := #[s, x], argTypes := #[59, 59] }, type := tt, pos := pos, after := af, guard := none } :: rest) a w := by
  subst hN
  obtain ⟨i, hi, hz0, hz1, hz2⟩ := info_parts info39
  have hbelow : ∀ w', w.grownBy w' v.ownBlock → Below base w w' := fun w' hg => ⟨hg.os, hg.tape, hg.output, hg.size, fun k hk => hg.block k (by omega) (fun e => by have := (ho.block k e.symm).1; omega)⟩
  refine wpList_append_own w rfl s x 59 rfl base 39 i (.int .u64 0) 1 8 Tryd.underlying59 hi hz0 hz1 hz2 rfl (by omega) v xs.length (xs.map LV) hs ho ⟨q, 0, none⟩ 1 1 [LV y] hx (by simp) ?_ (by intro v hv; simp at hv; subst hv; rfl) (by simp only [maxLen]; omega) (by omega) hbase ?_
  · intro j u hu
    obtain rfl : j = 0 := by
      have := (List.getElem?_eq_some_iff.1 hu).1
      simpa using this
    simp at hu
    subst hu
    exact hq
  · intro v' w' ho' hg hnil
    have ho'' : OwnQ w' base v' (xs ++ [y]) := by unfold OwnQ; rw [List.map_append, List.length_append]; exact ho'
    obtain ⟨p', cap', rfl⟩ := ho''.form
    rw [List.length_append] at ho'' ⊢
    exact h p' cap' w' ho'' (hbelow w' hg)
/-- The first 64 prime numbers. -/
def PL : List Nat := [2, 3, 5, 7, 11, 13, 17, 19, 23, 29, 31, 37, 41, 43, 47, 53, 59, 61, 67, 71, 73, 79, 83, 89, 97, 101, 103, 107, 109, 113, 127, 131, 137, 139, 149, 151, 157, 163, 167, 173, 179, 181, 191, 193, 197, 199, 211, 223, 227, 229, 233, 239, 241, 251, 257, 263, 269, 271, 277, 281, 283, 293, 307, 311]
def cnt (p : Nat) : Nat := (PL.filter (fun q => decide (q < p))).length
def upTo (p : Nat) : List Nat := PL.take (cnt p)
/-- Is p divided by none of these? -/
def noneDiv (p : Nat) (l : List Nat) : Bool := l.all fun q => decide (p % q ≠ 0)
theorem primes_step : ∀ p : Fin 312, 2 ≤ p.val → (noneDiv p.val (upTo p.val) = true → upTo (p.val + 1) = upTo p.val ++ [p.val]) ∧ (noneDiv p.val (upTo p.val) = false → upTo (p.val + 1) = upTo p.val) ∧ (upTo p.val).length < 64 := by decide +kernel
theorem primes_end : upTo 312 = PL := by decide +kernel
theorem primes_start : upTo 2 = [] := by decide +kernel
theorem noneDiv_take (p : Nat) (l : List Nat) (i q : Nat) (h : l[i]? = some q) : noneDiv p (l.take (i + 1)) = (noneDiv p (l.take i) && decide (p % q ≠ 0)) := by
  unfold noneDiv
  rw [List.take_add_one, h, List.all_append]
  simp
theorem noneDiv_false (p : Nat) (l : List Nat) (i : Nat) (h : noneDiv p (l.take i) = false) : noneDiv p l = false := by
  unfold noneDiv at *
  rw [← List.take_append_drop i l, List.all_append, h]; rfl
def PrimesOk (w : World) (e : Ending) (w' : World) : Prop := ∃ p cap, e = .returned (.slice p 64 cap) ∧ OwnQ w' w.heap.size (.slice p 64 cap) PL ∧ Below w.heap.size w w'
theorem pos_of_upTo : ∀ p : Fin 313, ∀ q ∈ upTo p.val, 0 < q ∧ q < 1000 := by decide +kernel
theorem len_upTo : ∀ p : Fin 313, (upTo p.val).length ≤ 64 := by decide +kernel
set_option maxRecDepth 100000 in
set_option maxHeartbeats 2000000 in
theorem primes_any (w : World) : Calls Tryd.prog 31 #[.int .i64 64] w fun e w' => PrimesOk w e w' := by
  have HS : Hid (∀ p, 2 ≤ p → p < 312 → (noneDiv p (upTo p) = true → upTo (p + 1) = upTo p ++ [p]) ∧ (noneDiv p (upTo p) = false → upTo (p + 1) = upTo p) ∧ (upTo p).length < 64) := fun p h1 h2 => primes_step ⟨p, h2⟩ h1
  have HE : Hid (∀ p, p = 312 → upTo p = PL) := by rintro p rfl; exact primes_end
  have HPO : Hid (∀ p, p < 313 → ∀ q ∈ upTo p, 0 < q ∧ q < 1000) := fun p h => pos_of_upTo ⟨p, h⟩
  have HLE : Hid (∀ p, p < 313 → (upTo p).length ≤ 64) := fun p h => len_upTo ⟨p, h⟩
  have H0 : Hid (OwnQ w w.heap.size (.slice none 0 0) (upTo 2)) := by rw [primes_start]; exact OwnQ.nil _ _
  have HL0 : Hid ((upTo 2).length = 0) := by rw [primes_start]; exact rfl
  go_enter Tryd.func31, Tryd.ntmps31
  go_wp2
  go_loopw [3, 4] (fun v pv wr => ∃ (P N cap : Nat) (a : Option Addr), v = .slice a N cap ∧ pv = .int .u64 (P : Nat) ∧ 2 ≤ P ∧ P ≤ 312 ∧ Hid (N = (upTo P).length) ∧ Hid (OwnQ wr w.heap.size (.slice a N cap) (upTo P)) ∧ Hid (Below w.heap.size w wr)) (fun _ pv _ => 312 - (intOf pv).toNat)
  case atStart => exact ⟨2, 0, 0, none, rfl, rfl, by omega, by omega, HL0.out.symm, H0, Below.refl _ _⟩
  case round =>
    clear H0 HL0
    obtain ⟨P, N, cap, a, rfl, rfl, hP2, hP312, hN, hO, hbe⟩ := hrel
    by_cases hlt : P < 312
    · obtain ⟨s1, s2, s3⟩ := HS.out P hP2 hlt
      have HS1 : Hid (noneDiv P (upTo P) = true → upTo (P + 1) = upTo P ++ [P]) := s1
      have HS2 : Hid (noneDiv P (upTo P) = false → upTo (P + 1) = upTo P) := s2
      have hN64 : N < 64 := by rw [hN.out]; exact s3
      have e1 : (N : Int) < 64 := by omega
      have HQ : Hid (∀ q ∈ upTo P, 0 < q ∧ q < 1000) := HPO.out P (by omega)
      clear s1 s2 s3
      obtain ⟨L, hL⟩ : ∃ L, L = upTo P := ⟨_, rfl⟩
      rw [← hL] at hN hO HS1 HS2 HQ
      have HLP : Hid (L = upTo P) := hL
      clear hL
      go_wp2
      go_loopw [5, 6] (fun bv iv wx => ∃ (i : Nat) (b : Bool), bv = .bool b ∧ iv = .int .i64 (i : Nat) ∧ i ≤ N ∧ Hid (b = noneDiv P (L.take i)) ∧ wx = wr) (fun _ iv _ => N - (intOf iv).toNat)
      case atStart => exact ⟨0, true, rfl, rfl, by omega, rfl, rfl⟩
      case round =>
        rename_i wr0 _ _ _ _ _
        obtain ⟨i, b, rfl, rfl, hi, hb, rfl⟩ := hrel
        have w1 : IntKind.i64.wrap ((i : Int) + 1) = (i : Int) + 1 := by rw [IntKind.wrap_i64]; omega
        rcases b with _ | _
        · have HF : Hid (noneDiv P L = false) := noneDiv_false P L i hb.out.symm
          have HU2 : Hid (upTo (P + 1) = L) := HS2.out HF.out
          have hii : ((i : Int) < (N : Int)) ∨ ¬ ((i : Int) < (N : Int)) := by omega
          clear hb
          rcases hii with hii | hii
          · go_wp2
            go_roundw
            case rel => exact ⟨P + 1, N, cap, a, rfl, by go_num, by omega, by omega, by rw [HU2.out]; exact hN, by rw [HU2.out]; exact hO, hbe⟩
            case measure => simp [intOf]; omega
          · go_wp2
            go_roundw
            case rel => exact ⟨P + 1, N, cap, a, rfl, by go_num, by omega, by omega, by rw [HU2.out]; exact hN, by rw [HU2.out]; exact hO, hbe⟩
            case measure => simp [intOf]; omega
        · by_cases hin : i < N
          · obtain ⟨q, hq⟩ : ∃ q, L[i]? = some q := ⟨_, List.getElem?_eq_getElem (by have := hN.out; omega)⟩
            have hq0 := HQ.out q (List.mem_of_getElem? hq)
            obtain ⟨g, rfl, hcell⟩ := hO.out.cells (by rintro rfl; simp at hq)
            have c0 := hcell i q hq
            have hT := noneDiv_take P L i q hq
            rw [← hb.out, Bool.true_and] at hT
            have HT : Hid (noneDiv P (L.take (i + 1)) = decide (P % q ≠ 0)) := hT
            clear hcell hq hT hb
            have e2 : (i : Int) < (N : Int) := by omega
            have e3 : (0 : Int) ≤ (i : Int) := by omega
            obtain ⟨m, hm⟩ : ∃ m, m = P % q := ⟨_, rfl⟩
            rw [← hm] at HT
            have hmi : (P : Int) % (q : Int) = (m : Int) := by rw [hm]; push_cast; rfl
            have hq1 : ¬ (q : Int) = 0 := by omega
            have hq2 : ((q : Int) == 0) = false := by simp; omega
            clear hm
            rcases Nat.eq_zero_or_pos m with h0 | h0
            · subst h0
              have hmi2 : (P : Int) % (q : Int) = 0 := hmi
              clear hmi
              go_wp2
              go_roundw
              case rel => exact ⟨i + 1, false, rfl, by go_num, by omega, HT.out.symm, trivial⟩
              case measure => simp [intOf]; omega
            · have hm0 : ((m : Int) == 0) = false := by simp; omega
              have hm1 : ¬ (m : Int) = 0 := by omega
              go_wp2
              go_roundw
              case rel => exact ⟨i + 1, true, by simp; omega, by go_num, by omega, by show true = _; rw [HT.out]; simp; omega, trivial⟩
              case measure => simp [intOf]; omega
          · have e2 : ¬ (i : Int) < (N : Int) := by omega
            have HT : Hid (noneDiv P L = true) := by
              show _ = _
              rw [hb.out, List.take_of_length_le (by have := hN.out; omega)]
            have HU1 : Hid (upTo (P + 1) = L ++ [P]) := HS1.out HT.out
            have hO5 : OwnQ (wr.alloc (.cells #[Value.int .u64 (P : Int)] 39)) w.heap.size (.slice a N cap) L := hO.out.below ((Below.refl _ _).alloc (Nat.le_refl _) _)
            have hq5 : (wr.alloc (.cells #[Value.int .u64 (P : Int)] 39)).cell? ⟨wr.heap.size, 0, none⟩ = some (.int .u64 (P : Int)) := by
              rw [cell_of_row _ _ _ _ _ _ (heap_alloc_last wr _)]; rfl
            have hsz := hbe.out.size
            have HB5 : Hid (Below w.heap.size w (wr.alloc (.cells #[Value.int .u64 (P : Int)] 39))) := hbe.out.alloc hsz _
            have hNl := hN.out.symm
            have HNL : Hid (N = L.length) := hN.out
            clear hb hO hbe hN
            go_wp2_with (first
              | ((with_reducible refine wpL_appendQ w.heap.size (.slice a N cap) L P N wr.heap.size hNl ?_ ?_ hO5 hq5 (by omega) (by simp; omega) ?_); (rfl); (rfl); (intro pm cm w5 hO6 hb6); (simp only [Act.put, List.setIfInBounds_toArray, List.set_cons_zero, List.set_cons_succ])))
            go_roundw
            case rel => exact ⟨P + 1, N + 1, cm, pm, rfl, by go_num, by omega, by omega, by show _ = _; rw [HU1.out, List.length_append, ← HNL.out]; rfl, by rw [HU1.out]; exact hO6, HB5.out.trans hb6⟩
            case measure => simp [intOf]; omega
    · obtain rfl : P = 312 := by omega
      have hu := HE.out 312 rfl
      have hN64 : N = 64 := by rw [hN.out, hu]; rfl
      subst hN64
      rw [hu] at hO
      clear hu HE hN
      go_wp2
      go_ret
      exact ⟨a, cap, rfl, hO.out, hbe.out⟩
end Go.Proofs.YtpgckbjcacagdaaDoor
