/- SortFunc 31 at rows of IDs and distances, by compare 32. -/
import Derived.Test.YtnilgnnlobiojaaShelfSort
import Derived.Test.YtnilgnnlobiojaaSlab
import Derived.Test.YtnilgnnlobiojaaCmp
namespace Go.Proofs.Ytnilgnnlobiojaa
open Go.Shelf Go.RowKit Go.Lib Go.Sort
theorem layFd : Lay encFd 2 := ⟨by omega, fun _ => rfl, fun x v hv => by simp [encFd] at hv; rcases hv with rfl | rfl <;> rfl⟩
theorem info64 : (Try.prog.info? 64).map (fun i => (i.zero, i.size, i.bytes)) = some (some (.agg #[.int .i64 0, .int .i64 0]), 2, 16) := by kernel_rfl
/-- Is x ahead of y? -/
def ltF (x y : Fd) : Bool := decide (x.2 < y.2) || (x.2 == y.2 && decide (x.1 < y.1))
theorem ltOf_cmp (x y : Fd) : ltOf cmpV x y = ltF x y := by
  unfold ltOf ltF cmpV cI
  by_cases h1 : x.2 < y.2
  · have : ¬ (if x.2 < y.2 then (-1 : Int) else if y.2 < x.2 then 1 else 0) = 0 := by rw [if_pos h1]; decide
    rw [if_neg this, if_pos h1]
    simp [h1]
  · by_cases h2 : y.2 < x.2
    · have : ¬ (if x.2 < y.2 then (-1 : Int) else if y.2 < x.2 then 1 else 0) = 0 := by rw [if_neg h1, if_pos h2]; decide
      rw [if_neg this, if_neg h1, if_pos h2]
      have h3 : ¬ x.2 = y.2 := by omega
      simp [h1, h3]
    · have h3 : x.2 = y.2 := by omega
      rw [if_pos (by rw [if_neg h1, if_neg h2])]
      by_cases h4 : x.1 < y.1
      · rw [if_pos h4]; simp [h3, h4]
      · rw [if_neg h4]
        by_cases h5 : y.1 < x.1
        · rw [if_pos h5]; simp [h3, h4]
        · rw [if_neg h5]; simp [h3, h4]
theorem ltF_iff (x y : Fd) : ltF x y = true ↔ x.2 < y.2 ∨ x.2 = y.2 ∧ x.1 < y.1 := by simp [ltF]
theorem ltF_not (x y : Fd) : ltF x y = false ↔ ¬ (x.2 < y.2 ∨ x.2 = y.2 ∧ x.1 < y.1) := by rw [← ltF_iff]; simp
theorem swoF : SWO (ltOf cmpV) where
  irrefl x := by rw [ltOf_cmp, ltF_not]; omega
  trans x y z h1 h2 := by rw [ltOf_cmp, ltF_iff] at *; omega
  ntrans x y z h1 h2 := by rw [ltOf_cmp, ltF_not] at *; omega
theorem cmpLays (blk off size : Nat) (w : World) : CmpLays Try.prog 32 #[] encFd 2 cmpV blk off size w :=
  fun _ _ _ _ x y => compare_any x y _
theorem sort_nil (w : World) (p : Option Addr) (cap : Nat) (fv : Value) : Calls Try.prog 31 #[.slice p 0 cap, fv] w fun e w' => e = .returned (.tuple #[]) ∧ w' = w := by
  have h := AnyF.slices_SortFunc_none Try.laySort p cap fv w
  exact h
/-- Sorted: none is ahead of one that stands before it. -/
def Sorted (ys : List Fd) : Prop := ys.Pairwise fun a b => ltF b a = false
theorem sort_any (xs : List Fd) (p : Option Addr) (M cap base : Nat) (w : World) (hM : M = xs.length) (h : OwnR encFd 64 2 w base (.slice p M cap) xs) (hn : M ≤ 1000000) :
    Calls Try.prog 31 #[.slice p M cap, .func (.func 32) #[] #[]] w fun e w' => e = .returned (.tuple #[]) ∧ ∃ ys : List Fd, ys.Perm xs ∧ Sorted ys ∧ RowAt encFd 2 w' (.slice p M cap) ys ∧ Below base w w' := by
  subst hM
  by_cases hx : xs = []
  · subst hx
    refine Calls.mono (sort_nil w p cap _) ?_
    rintro e w' ⟨rfl, hw⟩
    replace hw := hw.symm
    subst hw
    exact ⟨rfl, [], List.Perm.refl _, List.Pairwise.nil, h.row layFd, Below.refl _ _⟩
  · have hpos : 0 < xs.length := List.length_pos_iff.2 hx
    obtain ⟨_, g, rfl, hg, hglt, hfr, _⟩ := h.at layFd 0 hpos
    have hrow := h.row layFd
    have hH : HoldsK encFd 2 w g 0 xs.toArray := by
      intro j hj
      rw [size_flatK] at hj
      refine ⟨?_, hfr _⟩
      have h1 : j / 2 < xs.length := by simp at hj; omega
      obtain ⟨_, sb, so, e, _, hcell⟩ := RowAt.pos layFd hrow (j / 2) h1
      simp only [Option.some.injEq, Addr.mk.injEq] at e
      obtain ⟨rfl, rfl, -⟩ := e
      rw [get_flatK _ _ _ _ hj]
      have h2 : (encFd xs[j / 2])[j % 2]? = some ((encFd xs[j / 2])[j % 2]!) := by
        have : j % 2 < (encFd xs[j / 2]).length := by rw [layFd.len]; omega
        rw [getElem!_pos (encFd xs[j / 2]) (j % 2) this, List.getElem?_eq_getElem this]
      have h3 := hcell (j % 2) _ h2
      have h4 : xs.toArray[j / 2]! = xs[j / 2] := by
        rw [getElem!_pos _ _ (by simpa using h1)]; simp
      rw [h4, show 0 + j = 0 + j / 2 * 2 + j % 2 by omega]
      exact h3
    have eg : ∀ args w, (callFunc 32 args).run Try.prog w = .ok (.enter 32 args) w := enters_of Try.func32 (by kernel_rfl) rfl
    have hcon := AnyQ.slices_SortFunc Try.laySort 2 Try.isAgg64 Try.sizeOf64 encFd layFd.len layFd.one cmpV swoF 32 #[] g 0 cap xs.toArray w eg (cmpLays g 0 _ w) hH hglt (by simp; omega)
    have hcon' : Calls Try.prog 31 #[.slice (some ⟨g, 0, none⟩) xs.length cap, .func (.func 32) #[] #[]] w _ := hcon
    refine Calls.mono hcon' ?_
    rintro e w' ⟨rfl, d', n, os, hp, hs, rfl⟩
    obtain ⟨hsz, _, hperm⟩ := hp
    have hlen : d'.toList.length = xs.length := by simpa using hsz
    refine ⟨rfl, d'.toList, ?_, ?_, ?_, ?_⟩
    · have e1 : (xs.toArray.extract 0 xs.toArray.size).toList = xs := by simp
      have e2 : (d'.extract 0 xs.toArray.size).toList = d'.toList := by rw [← hsz]; simp
      rw [e1, e2] at hperm
      exact hperm
    · refine List.pairwise_iff_getElem.2 fun i j hi hj hij => ?_
      have h1 := hs i j (Nat.zero_le _) hij (by rw [← hsz]; simpa using hj)
      rw [ltOf_cmp, getElem!_pos d' j (by simpa using hj), getElem!_pos d' i (by simpa using hi)] at h1
      simpa using h1
    · have hH2 := holdsK_sortWorldK encFd 2 w g 0 n xs.toArray d' os hglt hH hsz
      obtain ⟨q, cp, e, hc, _⟩ := hrow
      simp only [Value.slice.injEq] at e
      obtain ⟨rfl, -, rfl⟩ := e
      refine ⟨_, cap, by rw [hlen], by omega, fun _ => ⟨g, 0, rfl, fun i hi j u hu => ?_⟩⟩
      have hj : j < 2 := by have := (List.getElem?_eq_some_iff.1 hu).1; rw [layFd.len] at this; exact this
      have h1 := (HoldsK.cell hH2 (i := i) (c := j) (by simpa using hi) hj).1
      rw [h1, getElem!_pos d' i (by simpa using hi)]
      have h2 : (encFd d'[i])[j]? = some u := by simpa using hu
      obtain ⟨h3, h4⟩ := List.getElem?_eq_some_iff.1 h2
      rw [getElem!_pos (encFd d'[i]) j h3, h4]
    · refine ⟨rfl, rfl, rfl, size_sortWorldK_c encFd 2 w g 0 n d' os, fun k hk => ?_⟩
      unfold sortWorldK putRowK putRow mapBlock grow
      show ((Sort.ahead w n).heap.modify g _ ++ os)[k]? = w.heap[k]?
      rw [Array.getElem?_append_left (by simp; show k < w.heap.size; omega), Array.getElem?_modify, if_neg (by omega)]
      rfl
end Go.Proofs.Ytnilgnnlobiojaa
