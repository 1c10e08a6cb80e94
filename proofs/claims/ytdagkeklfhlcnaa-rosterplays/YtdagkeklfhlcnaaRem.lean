/- The reference's Remove. -/
import Derived.Test.YtdagkeklfhlcnaaSet
namespace Go.Proofs.Ytdagkeklfhlcnaa
open Go.RowKit
set_option maxHeartbeats 2000000 in
theorem rremNone_any (r : Nat) (l : List (List Int)) (nx id : Int) (w : World) (h : Rf w r l nx) (hs : l.length ≤ 1000000) (hf : fnd l id 0 = -1) : Calls Try.prog 24 #[P r, .int .i64 id] w fun q w' => q = .returned (.int .i64 3) ∧ w' = w := by
  have h33 : Hid (Calls Try.prog 33 #[P r, .int .i64 id] w fun q w' => q = .returned (.int .i64 (-1)) ∧ w' = w) := by
    have := rfind_any r l nx id w h hs
    rwa [hf] at this
  unfold P at *
  clear h hf hs
  go_enter Try.func24, Try.ntmps24
  go_wp2_with fail
  refine Calls.mono h33.out ?_
  rintro e w1 ⟨rfl, rfl⟩
  go_wp2
  go_ret
  exact ⟨rfl, rfl⟩
/-- A part of a row, read cell by cell. -/
theorem OwnE.part {w : World} {base : Nat} {p : Option Addr} {N cap : Nat} {es : List (List Int)} (h : OwnE w base (.slice p N cap) es) (k : Nat) (hk : k ≤ N) (hN : 0 < N) : ∃ g, p = some ⟨g, 0, none⟩ ∧ base ≤ g ∧ g < w.heap.size ∧ N ≤ cap ∧ (∀ j u, (fl (es.drop k))[j]? = some u → w.cell? ((⟨g, k * 11, none⟩ : Addr).add j) = some u) ∧ (∀ j u, (fl (es.take k))[j]? = some u → w.cell? ((⟨g, 0, none⟩ : Addr).add j) = some u) := by
  obtain ⟨⟨hl, ⟨hv, hn⟩ | ⟨g, c, cur, hv, hg, hh, hc, hm, hcs, ht⟩⟩, he⟩ := h
  · simp at hv; omega
  · simp at hv
    obtain ⟨rfl, rfl, rfl⟩ := hv
    have hT : Elev (es.take k) := fun x hx => he x (List.mem_of_mem_take hx)
    have lT : (fl (es.take k)).length = k * 11 := by rw [fl_length hT, List.length_take]; congr 1; omega
    have ef : fl es = fl (es.take k) ++ fl (es.drop k) := by rw [← fl_append, List.take_append_drop]
    have hcell : ∀ j u, (fl es)[j]? = some u → w.cell? ⟨g, j, none⟩ = some u := fun j u hu => by
      rw [cell_of_row _ _ _ _ _ _ hh, ← Array.getElem?_toList]
      rw [← ht, List.getElem?_take] at hu
      split at hu
      · exact hu
      · cases hu
    refine ⟨g, rfl, hg, (Array.getElem?_eq_some_iff.1 hh).1, hc, fun j u hu => ?_, fun j u hu => ?_⟩
    · rw [Addr.add_mid]
      refine hcell _ _ ?_
      rw [ef, List.getElem?_append_right (by omega), lT, Nat.add_sub_cancel_left]; exact hu
    · rw [Addr.add_mid, Nat.zero_add]
      refine hcell _ _ ?_
      rw [ef, List.getElem?_append_left (List.getElem?_eq_some_iff.1 hu).1]; exact hu
set_option maxRecDepth 20000 in
set_option maxHeartbeats 4000000 in
theorem rrem_any (r : Nat) (l : List (List Int)) (nx id : Int) (i : Nat) (w : World) (h : Rf w r l nx) (hs : l.length ≤ 1000000) (hf : fnd l id 0 = (i : Int)) (hi : i < l.length) : Calls Try.prog 24 #[P r, .int .i64 id] w fun q w' => OutRSet w r (l.eraseIdx i) nx q w' := by
  obtain ⟨m, hm⟩ : ∃ m, l.length = i + 1 + m := ⟨l.length - (i + 1), by omega⟩
  have h33 : Hid (Calls Try.prog 33 #[P r, .int .i64 id] w fun q w' => q = .returned (.int .i64 (i : Int)) ∧ w' = w) := by
    have := rfind_any r l nx id w h hs
    rwa [hf] at this
  have HRL := hid h.lt
  have HEL := hid h.elev
  obtain ⟨v, hb, ho⟩ := h
  obtain ⟨p, cap, rfl⟩ := ho.form
  obtain ⟨u, hp, hu, hul, hNc, hd, -⟩ := ho.part (i + 1) (by omega) (by omega)
  obtain ⟨u2, hp2, -, -, -, -, ht⟩ := ho.part i (by omega) (by omega)
  obtain rfl : u = u2 := by rw [hp] at hp2; simpa using hp2
  subst hp
  clear hp2
  have c0 : w.cell? ⟨r, 0, none⟩ = some (.slice (some ⟨u, 0, none⟩) l.length cap) := hb.cell 0
  rw [hm] at c0 hNc
  have HRB : Hid (Blk w r [.slice (some ⟨u, 0, none⟩) (i + 1 + m) cap, .int .i64 nx] 38) := by rw [← hm]; exact hb
  have HU := hid hu
  have HUL := hid hul
  have HT := hid ht
  have HD := hid hd
  have HLM := hid (fun (_ : Nat) => hm)
  have HLS := hid hs
  have hi0 : ((i : Int) < 0) = False := by simp
  have hi3 : (i : Int) + 1 ≤ 9223372036854775807 := by omega
  have hi2 : (0 : Int) ≤ (i : Int) := by omega
  have hi4 : (0 : Int) ≤ (i : Int) + 1 := by omega
  have hi5 : (i : Int) ≤ (cap : Int) := by omega
  have hi6 : (i : Int) + 1 ≤ (i : Int) + 1 + (m : Int) := by omega
  have hi7 : (i : Int) + 1 + (m : Int) ≤ (cap : Int) := by omega
  have hi8 : i ≤ cap := by omega
  have hi9 : i + 1 ≤ i + 1 + m := by omega
  have HTL : Hid (i = (l.take i).length) := by rw [List.length_take]; exact hid (by omega)
  have HDL : Hid (m = (l.drop (i + 1)).length) := by rw [List.length_drop]; exact hid (by omega)
  have HTE : Hid (Elev (l.take i)) := fun x hx => HEL.out x (List.mem_of_mem_take hx)
  have HDE : Hid (Elev (l.drop (i + 1))) := fun x hx => HEL.out x (List.mem_of_mem_drop hx)
  have HON : Hid (OwnE w (r + 1) (.slice none 0 0) []) := ⟨⟨rfl, Or.inl ⟨rfl, rfl⟩⟩, fun _ h => by cases h⟩
  have HS1 : Hid (([] : List (List Int)).length + i ≤ 2000000) := hid (by simp; omega)
  have HS2 : Hid ((l.take i).length + m ≤ 2000000) := hid (by rw [← HTL.out]; omega)
  have HRS : Hid (r + 1 ≤ w.heap.size) := HRL.out
  have HER : Hid (l.take i ++ l.drop (i + 1) = l.eraseIdx i) := (List.eraseIdx_eq_take_drop_succ l i).symm
  unfold OutRSet
  unfold P at *
  clear hf hi hb ho hu hul ht hd hm hs hNc
  by_cases hcap : cap = i + 1
  · obtain rfl : m = 0 := by omega
    subst hcap
    have hD0 : l.drop (i + 1) = [] := List.eq_nil_of_length_eq_zero HDL.out.symm
    rw [hD0] at HDE HER
    have HD0 : Hid (∀ j q, (fl ([] : List (List Int)))[j]? = some q → ∀ W : World, W.cell? ((⟨u, 0, none⟩ : Addr).add j) = some q) := fun j q hq => by simp [fl] at hq
    clear hD0 HD HDL
    simp only [Nat.add_zero] at *
    have HS2X : Hid ((l.take i).length + 0 ≤ 2000000) := HS2.out
    go_enter Try.func24, Try.ntmps24
    go_wp2_with fail
    refine Calls.mono h33.out ?_
    rintro e w1 ⟨rfl, hw⟩
    subst hw
    go_upto_region 6 with (first
      | ((with_reducible refine wpL_appendEs (r + 1) (.slice none 0 0) [] ⟨u, 0, none⟩ i (i + 1) (l.take i) ?_ ?_ HTL.out HTE.out HON.out HT.out HS1.out HRS.out ?_); (rfl); (rfl); (intro v2 w2 ho2 hs2 he1 he2 he3 hk2 hv2); (obtain ⟨p2, k2, rfl⟩ := ho2.form); (simp only [Act.put, List.setIfInBounds_toArray, List.set_cons_zero, List.set_cons_succ])))
    simp only [List.nil_append] at ho2 hv2 ⊢
    have HK2 : Hid (∀ k, k < w1.heap.size → w2.heap[k]? = w1.heap[k]?) := fun k hk => hk2 k hk (by simp [Value.ownBlock])
    have HRB2 : Hid (Blk w2 r [.slice (some ⟨u, 0, none⟩) (i + 1) (i + 1), .int .i64 nx] 38) := by
      have := HRB.out; unfold Blk at *; rw [HK2.out r HRL.out]; exact hid this
    have HO2 := hid ho2
    have HV2 : Hid (∀ k, (Value.slice p2 (l.take i).length k2).ownBlock = some k → w1.heap.size ≤ k) := fun k hk => by
      rcases hv2 with h1 | h1
      · rw [h1] at hk; simp [Value.ownBlock] at hk
      · rw [h1] at hk; simp at hk; omega
    have HE2 : Hid (w2.os = w1.os ∧ w2.tape = w1.tape ∧ w2.output = w1.output ∧ w1.heap.size ≤ w2.heap.size) := ⟨he1, he2, he3, hs2⟩
    have HRS2 : Hid (r + 1 ≤ w2.heap.size) := Nat.le_trans HRS.out hs2
    have c02 : w2.cell? ⟨r, 0, none⟩ = some (.slice (some ⟨u, 0, none⟩) (i + 1) (i + 1)) := HRB2.out.cell 0
    clear c0 ho2 hv2 hk2 hs2 he1 he2 he3
    generalize (l.take i).length = n2 at HO2 HV2 ⊢
    go_upto_region 7 with (first
      | ((with_reducible refine wpL_appendEs (r + 1) (.slice p2 n2 k2) (l.take i) ⟨u, 0, none⟩ 0 0 [] ?_ ?_ rfl HDE.out HO2.out (fun j q hq => HD0.out j q hq w2) HS2X.out HRS2.out ?_); (rfl); (rfl); (intro v3 w3 ho3 hs3 he1 he2 he3 hk3 hv3); (obtain ⟨p3, k3, rfl⟩ := ho3.form); (simp only [Act.put, List.setIfInBounds_toArray, List.set_cons_zero, List.set_cons_succ])))
    generalize (l.take i ++ []).length = n3 at ho3 hv3 ⊢
    rw [HER.out] at ho3
    have HRB3 : Hid (Blk w3 r [.slice (some ⟨u, 0, none⟩) (i + 1) (i + 1), .int .i64 nx] 38) := by
      have := HRB2.out; unfold Blk at *; rw [hk3 r HRS2.out (fun e => by have := HV2.out r e; have := HRL.out; omega)]; exact hid this
    have HB3 : Hid (Below r w1 w3) := ⟨he1.trans HE2.out.1, he2.trans HE2.out.2.1, he3.trans HE2.out.2.2.1, Nat.le_trans HE2.out.2.2.2 hs3, fun k hk => by
      have h1 := HRL.out
      rw [hk3 k (by have := HRS2.out; omega) (fun e => by have := HV2.out k e; omega)]; exact HK2.out k (by omega)⟩
    have HKK : Hid (∀ k, k < w1.heap.size → w3.heap[k]? = w1.heap[k]?) := fun k hk => (hk3 k (by have := HE2.out.2.2.2; omega) (fun e => by have := HV2.out k e; omega)).trans (HK2.out k hk)
    have HO3 := hid ho3
    have c03 := HRB3.out.cell 0
    have f03 := HRB3.out.frozen 0
    simp only [List.getElem?_cons_zero] at c03
    clear ho3 hs3 he1 he2 he3 hk3 hv3 c02
    go_wp2
    go_ret
    refine ⟨rfl, ⟨_, HRB3.out.set 0 _, HO3.out.keep fun k hk _ => ?_⟩, HB3.out.setCell (Nat.le_refl _) _, Rkeep.mk HRB.out fun k h1 h2 h3 => ?_⟩
    · rw [Below.heap_setCell _ _ _ _ (by show k ≠ r; omega)]
    · rw [Below.heap_setCell _ _ _ _ h1]; exact HKK.out k h3
  · have hc1 : (cap = i + 1) = False := by simp; exact hcap
    have hc2 : (i + 1 = cap) = False := by simp; omega
    have hc3 : i + 1 + m - (i + 1) = m := by omega
    have HS2X := HS2
    clear hcap
    go_enter Try.func24, Try.ntmps24
    go_wp2_with fail
    refine Calls.mono h33.out ?_
    rintro e w1 ⟨rfl, hw⟩
    subst hw
    go_upto_region 6 with (first
      | ((with_reducible refine wpL_appendEs (r + 1) (.slice none 0 0) [] ⟨u, 0, none⟩ i cap (l.take i) ?_ ?_ HTL.out HTE.out HON.out HT.out HS1.out HRS.out ?_); (rfl); (rfl); (intro v2 w2 ho2 hs2 he1 he2 he3 hk2 hv2); (obtain ⟨p2, k2, rfl⟩ := ho2.form); (simp only [Act.put, List.setIfInBounds_toArray, List.set_cons_zero, List.set_cons_succ])))
    simp only [List.nil_append] at ho2 hv2 ⊢
    have HK2 : Hid (∀ k, k < w1.heap.size → w2.heap[k]? = w1.heap[k]?) := fun k hk => hk2 k hk (by simp [Value.ownBlock])
    have HRB2 : Hid (Blk w2 r [.slice (some ⟨u, 0, none⟩) (i + 1 + m) cap, .int .i64 nx] 38) := by
      have := HRB.out; unfold Blk at *; rw [HK2.out r HRL.out]; exact hid this
    have HO2 := hid ho2
    have HV2 : Hid (∀ k, (Value.slice p2 (l.take i).length k2).ownBlock = some k → w1.heap.size ≤ k) := fun k hk => by
      rcases hv2 with h1 | h1
      · rw [h1] at hk; simp [Value.ownBlock] at hk
      · rw [h1] at hk; simp at hk; omega
    have HE2 : Hid (w2.os = w1.os ∧ w2.tape = w1.tape ∧ w2.output = w1.output ∧ w1.heap.size ≤ w2.heap.size) := ⟨he1, he2, he3, hs2⟩
    have HRS2 : Hid (r + 1 ≤ w2.heap.size) := Nat.le_trans HRS.out hs2
    have c02 : w2.cell? ⟨r, 0, none⟩ = some (.slice (some ⟨u, 0, none⟩) (i + 1 + m) cap) := HRB2.out.cell 0
    have HD2 : Hid (∀ j q, (fl (l.drop (i + 1)))[j]? = some q → w2.cell? ((⟨u, (i + 1) * 11, none⟩ : Addr).add j) = some q) := fun j q hq => by
      have h1 := HD.out j q hq
      rw [Addr.add_mid] at h1 ⊢
      rw [← h1]
      simp only [World.cell?, HK2.out u HUL.out]
    clear c0 ho2 hv2 hk2 hs2 he1 he2 he3
    generalize (l.take i).length = n2 at HO2 HV2 ⊢
    go_upto_region 7 with (first
      | ((with_reducible refine wpL_appendEs (r + 1) (.slice p2 n2 k2) (l.take i) ⟨u, (i + 1) * 11, none⟩ m (cap - (i + 1)) (l.drop (i + 1)) ?_ ?_ HDL.out HDE.out HO2.out HD2.out HS2X.out HRS2.out ?_); (rfl); (rfl); (intro v3 w3 ho3 hs3 he1 he2 he3 hk3 hv3); (obtain ⟨p3, k3, rfl⟩ := ho3.form); (simp only [Act.put, List.setIfInBounds_toArray, List.set_cons_zero, List.set_cons_succ])))
    generalize (l.take i ++ (l.drop (i + 1))).length = n3 at ho3 hv3 ⊢
    rw [HER.out] at ho3
    have HRB3 : Hid (Blk w3 r [.slice (some ⟨u, 0, none⟩) (i + 1 + m) cap, .int .i64 nx] 38) := by
      have := HRB2.out; unfold Blk at *; rw [hk3 r HRS2.out (fun e => by have := HV2.out r e; have := HRL.out; omega)]; exact hid this
    have HB3 : Hid (Below r w1 w3) := ⟨he1.trans HE2.out.1, he2.trans HE2.out.2.1, he3.trans HE2.out.2.2.1, Nat.le_trans HE2.out.2.2.2 hs3, fun k hk => by
      have h1 := HRL.out
      rw [hk3 k (by have := HRS2.out; omega) (fun e => by have := HV2.out k e; omega)]; exact HK2.out k (by omega)⟩
    have HKK : Hid (∀ k, k < w1.heap.size → w3.heap[k]? = w1.heap[k]?) := fun k hk => (hk3 k (by have := HE2.out.2.2.2; omega) (fun e => by have := HV2.out k e; omega)).trans (HK2.out k hk)
    have HO3 := hid ho3
    have c03 := HRB3.out.cell 0
    have f03 := HRB3.out.frozen 0
    simp only [List.getElem?_cons_zero] at c03
    clear ho3 hs3 he1 he2 he3 hk3 hv3 c02
    go_wp2
    go_ret
    refine ⟨rfl, ⟨_, HRB3.out.set 0 _, HO3.out.keep fun k hk _ => ?_⟩, HB3.out.setCell (Nat.le_refl _) _, Rkeep.mk HRB.out fun k h1 h2 h3 => ?_⟩
    · rw [Below.heap_setCell _ _ _ _ (by show k ≠ r; omega)]
    · rw [Below.heap_setCell _ _ _ _ h1]; exact HKK.out k h3
end Go.Proofs.Ytdagkeklfhlcnaa
