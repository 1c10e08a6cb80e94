/- Each reader of the codec with the writer of what it read: where there is no error, the writer gives the bytes back. -/
import Derived.Test.YtpiflgbcbhnmpaaBack
namespace Go.Proofs.Ytpiflgbcbhnmpaa
open Go.RowKit
def ReadBack (wr len : Nat) (bs : List Nat) (W : World) (e : Ending) (w' : World) : Prop :=
  ∃ (es : List Value) (E : Int), e = .returned (.tuple #[.agg es.toArray, .int .i64 E]) ∧ es.length = len ∧ (∀ v ∈ es, v.oneCell' = true) ∧ Below W.heap.size W w' ∧ (E = 0 → ∀ W', Below w'.heap.size w' W' → Calls Try.prog wr #[.agg es.toArray] W' fun e w'' => OutE W' W'.heap.size bs 0 e w'')
def ReadBackS (wr : Nat) (bs : List Nat) (W : World) (e : Ending) (w' : World) : Prop :=
  ∃ (p : Option Addr) (N cap : Nat) (E : Int), e = .returned (.tuple #[.slice p N cap, .int .i64 E]) ∧ Below W.heap.size W w' ∧ (E = 0 → ∀ W', Below w'.heap.size w' W' → Calls Try.prog wr #[.slice p N cap] W' fun e w'' => OutE W' W'.heap.size bs 0 e w'')
theorem rb32 (bs : List Nat) (hbs : Byt bs) (p : Option Addr) (M cap : Nat) (w : World) (hM : M = bs.length) (hB : BytesAt w (.slice p M cap) bs) (hsz : M < 100000000000) :
    Calls Try.prog 32 #[.slice p M cap] w fun e w' => ReadBack 20 37 bs w e w' := by
  refine (read32 bs hbs p M cap w hM hB hsz).mono fun e w' ⟨es, he, hA, hl, ho, hb⟩ => ⟨es, _, he, hl, ho, hb, fun h0 W hW => ?_⟩
  obtain ⟨b1, b2⟩ := back66 bs ⟨hbs, by show bs.length < _; omega⟩ h0
  have hd : wh66 bs = (pSeal (bs, false)).1 := by unfold wh66; rw [if_pos h0]
  have hm := pSeal_m (bs, false)
  have ht := pSeal_tag (bs, false)
  rw [← hd] at hm ht
  generalize wh66 bs = d at *
  obtain ⟨cv, rfl, hc⟩ := hA.below hW
  obtain ⟨q, c, rfl, hq⟩ := hc.lo
  have h := sealed20 d hm.1 ht q _ c rfl hm.2 W hc.at hq
  rw [b1, b2] at h
  exact h
theorem pBlk_few (s : S2) : BkFit (pBlk s).1 ∧ (pBlk s).1.ds.length < 1000000000 := by
  refine ⟨pBlk_bk s, ?_⟩
  unfold pBlk pBlk0
  obtain ⟨t, s1, ht⟩ : ∃ a b, pN 59 s = (a, b) := ⟨_, _, rfl⟩
  obtain ⟨pa, s2, hpa⟩ : ∃ a b, pD s1 = (a, b) := ⟨_, _, rfl⟩
  obtain ⟨pb, s3, hpb⟩ : ∃ a b, pD s2 = (a, b) := ⟨_, _, rfl⟩
  obtain ⟨pc, s4, hpc⟩ : ∃ a b, pD s3 = (a, b) := ⟨_, _, rfl⟩
  simp only [ht, hpa, hpb, hpc]
  unfold pList
  rw [pMany_length]
  have := pNum_le (most := 4) (bs := s4.1) (bad := s4.2)
  rw [show pNum 4 s4.1 s4.2 = pN 4 s4 from rfl] at this
  omega
theorem rb34 (bs : List Nat) (hbs : Byt bs) (p : Option Addr) (M cap : Nat) (w : World) (hM : M = bs.length) (hB : BytesAt w (.slice p M cap) bs) (hsz : M < 100000000000) :
    Calls Try.prog 34 #[.slice p M cap] w fun e w' => ReadBack 26 98 bs w e w' := by
  refine (read34 bs hbs p M cap w hM hB hsz).mono fun e w' ⟨es, he, hA, hl, ho, hb⟩ => ⟨es, _, he, hl, ho, hb, fun h0 W hW => ?_⟩
  obtain ⟨b1, b2⟩ := back70 bs ⟨hbs, by show bs.length < _; omega⟩ h0
  have hd : wh70 bs = (pBlk (bs, false)).1 := by unfold wh70; rw [if_pos h0]
  have hm := pBlk_few (bs, false)
  rw [← hd] at hm
  generalize wh70 bs = d at *
  obtain ⟨cv, rfl, hc⟩ := hA.below hW
  have hlo := hc.lo
  obtain ⟨q, c, _, rfl, _⟩ := id hlo
  have h := block26 d hm.1 q _ c rfl (by have := hm.2; omega) W hlo
  rw [b1, b2] at h
  exact h
theorem rb36 (bs : List Nat) (hbs : Byt bs) (p : Option Addr) (M cap : Nat) (w : World) (hM : M = bs.length) (hB : BytesAt w (.slice p M cap) bs) (hsz : M < 100000000000) :
    Calls Try.prog 36 #[.slice p M cap] w fun e w' => ReadBack 28 67 bs w e w' := by
  refine (read36 bs hbs p M cap w hM hB hsz).mono fun e w' ⟨es, he, hA, hl, ho, hb⟩ => ⟨es, _, he, hl, ho, hb, fun h0 W hW => ?_⟩
  obtain ⟨b1, b2⟩ := back73 bs ⟨hbs, by show bs.length < _; omega⟩ h0
  have hd : wh73 bs = (pRes (bs, false)).1 := by unfold wh73; rw [if_pos h0]
  have hm : (pRes (bs, false)).1.m < 18446744073709551616 ∧ (pRes (bs, false)).1.la.length = 32 ∧ (pRes (bs, false)).1.tg.length = 32 := by
    unfold pRes
    obtain ⟨m, s1, hm⟩ : ∃ a b, pN 9223372036854775807 (bs, false) = (a, b) := ⟨_, _, rfl⟩
    have hml : m ≤ 9223372036854775807 := by have := pNum_le (most := 9223372036854775807) (bs := bs) (bad := false); rw [show pNum 9223372036854775807 bs false = pN 9223372036854775807 (bs, false) from rfl, hm] at this; exact this
    simp only [hm]
    exact ⟨by omega, pD_32 _, pD_32 _⟩
  rw [← hd] at hm
  generalize wh73 bs = d at *
  subst hA
  have h := result28 d hm.1 hm.2.1 hm.2.2 W
  rw [b1, b2] at h
  exact h
theorem rb38 (bs : List Nat) (hbs : Byt bs) (p : Option Addr) (M cap : Nat) (w : World) (hM : M = bs.length) (hB : BytesAt w (.slice p M cap) bs) (hsz : M < 100000000000) :
    Calls Try.prog 38 #[.slice p M cap] w fun e w' => ReadBackS 43 bs w e w' := by
  refine (read38 bs hbs p M cap w hM hB hsz).mono fun e w' ⟨p, N, c, hN, he, hA, hb⟩ => ⟨p, N, c, _, he, hb, fun h0 W hW => ?_⟩
  obtain ⟨b1, b2⟩ := back77 bs ⟨hbs, by show bs.length < _; omega⟩ h0
  have hd : wh77 bs = (pRep (bs, false)).1 := by unfold wh77; rw [if_pos h0]
  have hm : (∀ k ∈ (pRep (bs, false)).1, BkFit k ∧ k.ds.length < 1000000000) ∧ (pRep (bs, false)).1.length < 1000000000 := by
    refine ⟨fun k hk => ?_, ?_⟩
    · obtain ⟨s', rfl⟩ := pMany_mem _ _ _ k hk
      have := pBlk_few s'
      exact ⟨this.1, by have := this.2; omega⟩
    · unfold pRep pList
      rw [pMany_length]
      have := pNum_le (most := 60) (bs := bs) (bad := false)
      rw [show pNum 60 bs false = pN 60 (bs, false) from rfl] at this
      omega
  rw [← hd] at hm
  generalize wh77 bs = d at *
  have h := replay43 d hm.1 p N c W hN (hA.below hW).lo (by omega)
  rw [b1, b2] at h
  exact h
end Go.Proofs.Ytpiflgbcbhnmpaa
