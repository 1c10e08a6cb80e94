/- The reference's reader in memory: number 75, ended 69. -/
import Derived.Test.YtpiflgbcbhnmpaaRefRead
import Derived.Test.YtpiflgbcbhnmpaaLst
import Derived.Test.YtpiflgbcbhnmpaaSld
/- The reference's reader in memory: number 75, ended 69. -/
namespace Go.Proofs.Ytpiflgbcbhnmpaa
open Go.RowKit
/-- The bytes that the slice v holds lie below block rb, or in a block of bytes behind it. -/
def Ap (w : World) (rb : Nat) (v : Value) (bs : List Nat) : Prop :=
  ∃ p cap, v = .slice p bs.length cap ∧ bs.length ≤ cap ∧ (p = none → cap = 0) ∧ (bs ≠ [] → ∃ sb so, p = some ⟨sb, so, none⟩ ∧ (sb < rb ∨ (rb < sb ∧ ∃ cur fz, w.heap[sb]? = some (.cells cur 5 fz))) ∧ ∀ i, i < bs.length → w.cell? ⟨sb, so + i, none⟩ = some (By (bs.getD i 0)))
theorem Ap.bytes {w : World} {rb : Nat} {v : Value} {bs : List Nat} (h : Ap w rb v bs) : BytesAt w v bs := by
  obtain ⟨p, cap, rfl, hc, hz, h⟩ := h
  exact ⟨p, cap, rfl, hc, hz, fun hn => by obtain ⟨sb, so, rfl, _, hcell⟩ := h hn; exact ⟨sb, so, rfl, hcell⟩⟩
theorem Ap.stay {w w' : World} {rb : Nat} {v : Value} {bs : List Nat} (h : Ap w rb v bs) (hs : ∀ k, k < w.heap.size → (k < rb ∨ (rb < k ∧ ∃ cur fz, w.heap[k]? = some (.cells cur 5 fz))) → w'.heap[k]? = w.heap[k]?) : Ap w' rb v bs := by
  obtain ⟨p, cap, rfl, hc, hz, h⟩ := h
  refine ⟨p, cap, rfl, hc, hz, fun hn => ?_⟩
  obtain ⟨sb, so, rfl, hlt, hcell⟩ := h hn
  have hsb : sb < w.heap.size := lt_of_cell (hcell 0 (List.length_pos_iff.2 hn))
  have hh := hs sb hsb hlt
  refine ⟨sb, so, rfl, ?_, fun i hi => ?_⟩
  · rcases hlt with h1 | ⟨h1, cur, fz, h2⟩
    · exact Or.inl h1
    · exact Or.inr ⟨h1, cur, fz, hh.trans h2⟩
  · rw [World.cell?_of_block (w := w) (a := ⟨sb, so + i, none⟩) hh]
    exact hcell i hi
theorem Ap.only {w w' : World} {rb : Nat} {v : Value} {bs : List Nat} (h : Ap w rb v bs) (ho : Only rb w w') : Ap w' rb v bs :=
  h.stay fun k hk hp => ho.block k hk (by rcases hp with h | h <;> omega)
theorem Ap.drop {w : World} {rb sb so M cap : Nat} {bs : List Nat} (h : Ap w rb (.slice (some ⟨sb, so, none⟩) M cap) bs) (s : Nat) (hs : s ≤ bs.length) :
    (cap = s → Ap w rb (.slice (some ⟨sb, so, none⟩) (M - s) 0) (bs.drop s)) ∧ (¬ cap = s → Ap w rb (.slice (some ⟨sb, so + s, none⟩) (M - s) (cap - s)) (bs.drop s)) := by
  have hb := h.bytes
  obtain ⟨p, c, he, hc, hz, h⟩ := h
  simp at he
  obtain ⟨rfl, rfl, rfl⟩ := he
  obtain ⟨h1, h2⟩ := bytes_drop rfl hb hs hc
  refine ⟨fun he => ?_, fun he => ?_⟩
  · obtain ⟨p', c', e', a1, a2, a3⟩ := h1 he
    refine ⟨p', c', e', a1, a2, fun hn => ?_⟩
    have hl : bs.length ≤ s := by omega
    exact absurd (List.drop_eq_nil_of_le hl) hn
  · obtain ⟨p', c', e', a1, a2, a3⟩ := h2 he
    refine ⟨p', c', e', a1, a2, fun hn => ?_⟩
    obtain ⟨sb', so', e2, hcell⟩ := a3 hn
    refine ⟨sb', so', e2, ?_, hcell⟩
    simp at e'
    obtain ⟨rfl, _⟩ := e'
    simp at e2
    obtain ⟨rfl, _⟩ := e2
    have hne : bs ≠ [] := by rintro rfl; simp at hn
    obtain ⟨sb2, so2, e3, hlt, _⟩ := h hne
    simp at e3
    obtain ⟨rfl, _⟩ := e3
    exact hlt
theorem Ap.of {w : World} {v : Value} {bs : List Nat} (h : BytesAt w v bs) {rb : Nat} (hr : w.heap.size ≤ rb) : Ap w rb v bs := by
  obtain ⟨p, cap, e, hc, hz, h⟩ := Under.of h hr
  refine ⟨p, cap, e, hc, hz, fun hn => ?_⟩
  obtain ⟨sb, so, e2, hlt, hcell⟩ := h hn
  exact ⟨sb, so, e2, Or.inl hlt, hcell⟩
theorem Ap.own {w : World} {base rb : Nat} {v : Value} {bs : List Nat} (h : OwnB w base v bs) (hb : rb < base) : Ap w rb v bs := by
  have hB := h.bytes
  obtain ⟨p, cap, e, hc, hz, hcell⟩ := hB
  refine ⟨p, cap, e, hc, hz, fun hn => ?_⟩
  obtain ⟨sb, so, e2, hcell⟩ := hcell hn
  refine ⟨sb, so, e2, Or.inr ?_, hcell⟩
  have hob : v.ownBlock = some sb := by rw [e, e2]; rfl
  obtain ⟨h1, h2, cur, h3⟩ := ownsRow_block h sb hob
  exact ⟨by omega, cur, _, h3⟩
/-- The reference's reader in memory. -/
def RfAt (w : World) (rb : Nat) (s : S2) : Prop := ∃ v bs, Blk w rb [v, .bool s.2] 99 ∧ Ap w rb v bs ∧ Byt bs ∧ bs.length < 100000000000 ∧ (s.2 = false → bs = s.1)
theorem RfAt.lt {w : World} {rb : Nat} {s : S2} (h : RfAt w rb s) : rb < w.heap.size := by obtain ⟨v, _, h, _⟩ := h; exact h.lt
theorem RfAt.below {w w' : World} {rb : Nat} {s : S2} (h : RfAt w rb s) (hb : Below w.heap.size w w') : RfAt w' rb s := by
  obtain ⟨v, bs, h1, h2, h3⟩ := h
  exact ⟨v, bs, h1.below hb h1.lt, h2.only (Only.of_below hb), h3⟩
theorem RfAt.blk {w w' : World} {rb g : Nat} {l : List Value} {ty : TypeId} {s : S2} (h : RfAt w rb s) (hg : rb < g) (hl : Blk w g l ty) (ht : ty ≠ 5) (hs : ∀ k, k ≠ g → w'.heap[k]? = w.heap[k]?) : RfAt w' rb s := by
  obtain ⟨v, bs, h1, h2, h3⟩ := h
  refine ⟨v, bs, ?_, h2.stay fun k hk hp => hs k ?_, h3⟩
  · unfold Blk at *; rw [hs rb (by omega)]; exact h1
  · rcases hp with h4 | ⟨h4, cur, fz, h5⟩
    · omega
    · rintro rfl
      unfold Blk at hl
      rw [hl] at h5
      simp at h5
      exact ht h5.2.1
theorem RfAt.setNew {w : World} {rb g : Nat} {l : List Value} {ty : TypeId} {s : S2} (h : RfAt w rb s) (hg : rb < g) (hl : Blk w g l ty) (ht : ty ≠ 5) (j : Nat) (v : Value) : RfAt (w.setCell ⟨g, j, none⟩ v) rb s :=
  h.blk hg hl ht fun _ hk => Below.heap_setCell _ _ _ _ hk
theorem RfAt.setsNew {w : World} {rb g : Nat} {l : List Value} {ty : TypeId} {s : S2} (h : RfAt w rb s) (hg : rb < g) (hl : Blk w g l ty) (ht : ty ≠ 5) (o : Nat) (vs : List Value) : RfAt (w.setCells g o vs) rb s :=
  h.blk hg hl ht fun k hk => heap_setCells g vs o w k hk
/-- A state that is bad has nothing left. -/
def Gd (s : S2) : Prop := s.2 = true → s.1 = []
theorem pN_gd {s : S2} (h : Gd s) (most : Nat) : Gd (pN most s).2 := by
  unfold pN pNum Gd at *
  split
  · exact fun _ => rfl
  · intro hb
    have := h hb
    simp [this]
theorem pN_bad (most : Nat) {s : S2} (h : Gd s) (hb : s.2 = true) : pN most s = (0, [], true) := by
  unfold pN pNum
  rw [h hb]
  rw [if_pos (Or.inl (by rfl))]
theorem pD_gd {s : S2} (h : Gd s) : Gd (pD s).2 := by
  unfold pD pDig Gd at *
  split
  · exact fun _ => rfl
  · rename_i hl
    intro hb
    have h0 := h hb
    rw [h0] at hl
    exact absurd (by simp) hl
theorem pD_bad {s : S2} (h : Gd s) (hb : s.2 = true) : pD s = (List.replicate 32 0, [], true) := by
  unfold pD pDig
  rw [h hb]
  rw [if_pos (by simp)]
def RfOk (w : World) (rb : Nat) (v : Value) (s : S2) (e : Ending) (w' : World) : Prop := e = .returned v ∧ RfAt w' rb s ∧ Only rb w w'
theorem pNum_rd {most : Nat} (hm : most < 9223372036854775808) (bs : List Nat) : (rdE bs = 0 ∧ rdN bs ≤ most ∧ pNum most bs false = (rdN bs, rdL bs, false)) ∨ (rdE bs = 0 ∧ most < rdN bs ∧ pNum most bs false = (0, [], true)) ∨ (rdE bs = 11 ∧ pNum most bs false = (0, [], true)) := by
  unfold pNum rdE rdN rdL
  by_cases hok : rdOk bs
  · simp only [if_pos hok]
    unfold rdOk at hok
    by_cases h : joinN bs ≤ most
    · exact Or.inl ⟨trivial, h, by rw [if_neg (by omega)]⟩
    · exact Or.inr (Or.inl ⟨trivial, by omega, by rw [if_pos (Or.inr (by omega))]⟩)
  · simp only [if_neg hok]
    refine Or.inr (Or.inr ⟨trivial, ?_⟩)
    unfold rdOk at hok
    rw [if_pos (by omega)]
theorem rdL_byt {bs : List Nat} (h : Byt bs) : Byt (rdL bs) ∧ (rdL bs).length ≤ bs.length := by
  unfold rdL
  split
  · exact ⟨h.drop _, by simp⟩
  · exact ⟨Byt.nil, by simp⟩
set_option maxRecDepth 100000 in
set_option maxHeartbeats 2000000 in
theorem number75 (rb most : Nat) (hmost : most < 9223372036854775808) (s : S2) (hg : Gd s) (w : World) (h : RfAt w rb s) :
    Calls Try.prog 75 #[.pointer (some ⟨rb, 0, none⟩), .int .u64 ((most : Int) + 1)] w fun e w' => RfOk w rb (.int .u64 ((pN most s).1 : Int)) (pN most s).2 e w' := by
  obtain ⟨v, bs, hK, hA, hB, hL, hE⟩ := h
  have hA' := hA.bytes
  obtain ⟨p, cap, rfl, hcap, hz, hcell⟩ := id hA
  have h16 := refReadNumber_any bs hB p bs.length cap w rfl hA' hL
  have c0 := hK.cell 0
  have c1 := hK.cell 1
  simp only [List.getElem?_cons_zero, List.getElem?_cons_succ] at c0 c1
  have hrb : Hid (rb < w.heap.size) := hK.lt
  have HR := hid (rdL_byt hB)
  obtain ⟨N, hN⟩ : ∃ N, N = bs.length := ⟨_, rfl⟩
  rw [← hN] at h16 c0 hK hA
  have HAA := hid hA
  have HB := hid hB
  have HLB : Hid (bs.length < 100000000000) := hL
  obtain ⟨q, hq⟩ : ∃ q : Nat, q = most + 1 := ⟨_, rfl⟩
  have hq' : (most : Int) + 1 = (q : Int) := by omega
  rw [hq']
  obtain ⟨s1, bad⟩ := s
  simp only at c1 hK hE ⊢
  have HK := hid hK
  unfold RfOk
  -- the reader's cells behind the call
  have HC : Hid (∀ w', Below w.heap.size w w' → w'.cell? ⟨rb, 0, none⟩ = some (.slice p N cap) ∧ w'.cell? ⟨rb, 1, none⟩ = some (.bool bad) ∧ w'.frozen? ⟨rb, 0, none⟩ = false ∧ w'.frozen? ⟨rb, 1, none⟩ = false) := fun w' hb => by
    have := HK.out.below hb HK.out.lt
    exact ⟨this.cell 0, this.cell 1, this.frozen 0, this.frozen 1⟩
  have HOLD : Hid (∀ w', Below w.heap.size w w' → RfAt (w'.setCell ⟨rb, 1, none⟩ (.bool true)) rb ([], true) ∧ Only rb w (w'.setCell ⟨rb, 1, none⟩ (.bool true))) := fun w' hb => by
    have h1 := (HK.out.below hb HK.out.lt).set 1 (.bool true)
    have h2 := (HAA.out.only (Only.of_below hb)).only ((Only.refl rb w').setCell 1 (.bool true))
    exact ⟨⟨_, bs, h1, h2, HB.out, HLB.out, fun h => by cases h⟩, (Only.of_below hb).setCell 1 _⟩
  unfold OutR at h16
  have hcase : (bad = true ∧ pN most (s1, bad) = (0, [], true)) ∨ (bad = false ∧ rdE bs = 11 ∧ pN most (s1, bad) = (0, [], true)) ∨ (bad = false ∧ rdE bs = 0 ∧ q ≤ rdN bs ∧ pN most (s1, bad) = (0, [], true)) ∨ (bad = false ∧ rdE bs = 0 ∧ rdN bs < q ∧ pN most (s1, bad) = (rdN bs, rdL bs, false)) := by
    cases bad
    · have hbs : bs = s1 := hE rfl
      rw [← hbs]
      rcases pNum_rd hmost bs with ⟨a1, a2, a3⟩ | ⟨a1, a2, a3⟩ | ⟨a1, a3⟩
      · exact Or.inr (Or.inr (Or.inr ⟨rfl, a1, by omega, a3⟩))
      · exact Or.inr (Or.inr (Or.inl ⟨rfl, a1, by omega, a3⟩))
      · exact Or.inr (Or.inl ⟨rfl, a1, a3⟩)
    · exact Or.inl ⟨rfl, pN_bad most hg rfl⟩
  clear hA hA' hcell hz hcap hq hq' hmost hB hL hN hK hE hg
  generalize rdN bs = n at *
  generalize rdE bs = E at *
  have H16 := hid h16
  clear h16
  rcases hcase with ⟨rfl, hp⟩ | ⟨rfl, rfl, hp⟩ | ⟨rfl, rfl, hn, hp⟩ | ⟨rfl, rfl, hn, hp⟩
  · rw [hp]
    clear hp
    go_enter Try.func75, Try.ntmps75
    go_wp2_with fail
    refine Calls.mono H16.out ?_
    rintro e w1 ⟨p1, N1, k1, hN1, rfl, ho1, hb1⟩
    obtain ⟨d0, d1, z0, z1⟩ := HC.out w1 hb1
    have HB1 := hid hb1
    clear hb1 ho1 hN1 c0 c1
    go_wp2
    go_ret
    exact ⟨rfl, HOLD.out _ HB1.out⟩
  · rw [hp]
    clear hp
    go_enter Try.func75, Try.ntmps75
    go_wp2_with fail
    refine Calls.mono H16.out ?_
    rintro e w1 ⟨p1, N1, k1, hN1, rfl, ho1, hb1⟩
    obtain ⟨d0, d1, z0, z1⟩ := HC.out w1 hb1
    have HB1 := hid hb1
    clear hb1 ho1 hN1 c0 c1
    go_wp2
    go_ret
    exact ⟨rfl, HOLD.out _ HB1.out⟩
  · rw [hp]
    clear hp
    have hn' : (q : Int) ≤ (n : Int) := by omega
    go_enter Try.func75, Try.ntmps75
    go_wp2_with fail
    refine Calls.mono H16.out ?_
    rintro e w1 ⟨p1, N1, k1, hN1, rfl, ho1, hb1⟩
    obtain ⟨d0, d1, z0, z1⟩ := HC.out w1 hb1
    have HB1 := hid hb1
    clear hb1 ho1 hN1 c0 c1
    go_wp2
    go_ret
    exact ⟨rfl, HOLD.out _ HB1.out⟩
  · rw [hp]
    clear hp HOLD
    have hn' : ((q : Int) ≤ (n : Int)) = False := by simp; omega
    go_enter Try.func75, Try.ntmps75
    go_wp2_with fail
    refine Calls.mono H16.out ?_
    rintro e w1 ⟨p1, N1, k1, hN1, rfl, ho1, hb1⟩
    obtain ⟨d0, d1, z0, z1⟩ := HC.out w1 hb1
    have HK1 := hid ((HK.out.below hb1 HK.out.lt).set 0 (.slice p1 N1 k1))
    have HA1 := hid ((Ap.own ho1 hrb.out).only ((Only.refl rb w1).setCell 0 (.slice p1 N1 k1)))
    have HO1 := hid ((Only.of_below (hb := rb) hb1).setCell 0 (.slice p1 N1 k1))
    clear hb1 ho1 hN1 c0 c1
    go_wp2
    go_ret
    exact ⟨rfl, ⟨_, rdL bs, HK1.out, HA1.out, HR.out.1, Nat.lt_of_le_of_lt HR.out.2 HLB.out, fun _ => rfl⟩, HO1.out⟩
set_option maxRecDepth 100000 in
theorem ended69 (rb : Nat) (s : S2) (w : World) (h : RfAt w rb s) : Calls Try.prog 69 #[.pointer (some ⟨rb, 0, none⟩)] w fun e w' => e = .returned (.bool (!s.2 && decide (s.1.length = 0))) ∧ w' = w := by
  obtain ⟨v, bs, hK, hA, hB, hL, hE⟩ := h
  obtain ⟨p, cap, rfl, -⟩ := hA
  have c0 := hK.cell 0
  have c1 := hK.cell 1
  simp only [List.getElem?_cons_zero, List.getElem?_cons_succ] at c0 c1
  obtain ⟨s1, bad⟩ := s
  simp only at c1 hE ⊢
  cases bad
  · have := hE rfl
    subst this
    clear hE hK hB hL
    generalize bs.length = N at *
    by_cases hN : N = 0
    · subst hN
      go_enter Try.func69, Try.ntmps69
      go_wp2
      go_ret
      simp
    · have hN' : ((N : Int) == 0) = false := by simp; omega
      go_enter Try.func69, Try.ntmps69
      go_wp2
      go_ret
      simp [hN]
  · clear hE hK hB hL
    go_enter Try.func69, Try.ntmps69
    go_wp2
    go_ret
    simp
end Go.Proofs.Ytpiflgbcbhnmpaa
/- The reference's reader: digest 76; what a struct is made in. -/
namespace Go.Proofs.Ytpiflgbcbhnmpaa
open Go.RowKit
attribute [local go_sem ↓] zv36
/-- What a struct is made in: the result's variable, one's own, the reader. -/
structure Sr (w0 w : World) (rb B : Nat) (ty : TypeId) (z l : List Value) (s : S2) : Prop where
  res : Blk w B z ty
  own : Blk w (B + 1) l ty
  rd : RfAt w rb s
  only : Only rb w0 w
  lo : w0.heap.size ≤ B
  rlt : rb < w0.heap.size
  ne : ty ≠ 5
theorem Sr.call {w0 w w' : World} {rb B : Nat} {ty : TypeId} {z l : List Value} {s s' : S2} (h : Sr w0 w rb B ty z l s) (ho : Only rb w w') (hr : RfAt w' rb s') : Sr w0 w' rb B ty z l s' :=
  ⟨ho.blk h.res (by have := h.lo; have := h.rlt; omega), ho.blk h.own (by have := h.lo; have := h.rlt; omega), hr, h.only.trans ho, h.lo, h.rlt, h.ne⟩
theorem Sr.below {w0 w w' : World} {rb B : Nat} {ty : TypeId} {z l : List Value} {s : S2} (h : Sr w0 w rb B ty z l s) (hb : Below w.heap.size w w') : Sr w0 w' rb B ty z l s :=
  h.call (Only.of_below hb) (h.rd.below hb)
theorem Sr.set {w0 w : World} {rb B : Nat} {ty : TypeId} {z l : List Value} {s : S2} (h : Sr w0 w rb B ty z l s) (j : Nat) (v : Value) : Sr w0 (w.setCell ⟨B + 1, j, none⟩ v) rb B ty z (l.set j v) s :=
  ⟨h.res.set_ne _ (by show B ≠ B + 1; omega) v, h.own.set j v, h.rd.setNew (by have := h.lo; have := h.rlt; omega) h.own h.ne j v, h.only.setNew (by have := h.lo; omega) j v, h.lo, h.rlt, h.ne⟩
theorem Sr.sets {w0 w : World} {rb B : Nat} {ty : TypeId} {z l : List Value} {s : S2} (h : Sr w0 w rb B ty z l s) (o : Nat) (vs : List Value) (hl : o + vs.length ≤ l.length) : Sr w0 (w.setCells (B + 1) o vs) rb B ty z (over l o vs) s :=
  ⟨h.res.setCells_ne _ (by omega) o vs, Blk.setCells vs o h.own hl, h.rd.setsNew (by have := h.lo; have := h.rlt; omega) h.own h.ne o vs, h.only.setCellsNew (by have := h.lo; omega) o vs, h.lo, h.rlt, h.ne⟩
/-- The end: the result is one's own variable. -/
theorem Sr.fin {w0 w : World} {rb B : Nat} {ty : TypeId} {z l : List Value} {s : S2} (h : Sr w0 w rb B ty z l s) (hl : z.length = l.length) : Blk (w.setCells B 0 l) B l ty ∧ RfAt (w.setCells B 0 l) rb s ∧ Only rb w0 (w.setCells B 0 l) := by
  refine ⟨?_, h.rd.setsNew (by have := h.lo; have := h.rlt; omega) h.res h.ne 0 l, h.only.setCellsNew h.lo 0 l⟩
  have := Blk.setCells l 0 h.res (by omega)
  rw [show over z 0 l = l by simp [over, hl]] at this
  exact this
theorem Sr.start {w : World} {rb : Nat} {ty : TypeId} {z : List Value} {s : S2} (h : RfAt w rb s) (ht : ty ≠ 5) : Sr w ((w.alloc (.cells z.toArray ty)).alloc (.cells z.toArray ty)) rb w.heap.size ty z z s :=
  ⟨(Blk.new _ _ _).alloc _, Blk.new' _ _ _ _ (by simp), h.below (((Below.refl _ _).alloc (Nat.le_refl _) _).alloc (by simp) _), ((Only.refl rb w).alloc _).alloc _, Nat.le_refl _, h.lt, ht⟩
theorem set_midB (a : List Value) (z v : Value) (l : List Value) {i : Nat} (h : a.length = i) : (a ++ z :: l).set i v = a ++ [v] ++ l := by
  subst h
  rw [List.set_append_right _ _ (Nat.le_refl _), Nat.sub_self, List.set_cons_zero]; simp
set_option maxRecDepth 100000 in
set_option maxHeartbeats 4000000 in
theorem digest76 (rb : Nat) (s : S2) (hg : Gd s) (w : World) (h : RfAt w rb s) :
    Calls Try.prog 76 #[.pointer (some ⟨rb, 0, none⟩)] w fun e w' => RfOk w rb (.agg ((pD s).1.map By).toArray) (pD s).2 e w' := by
  have hS := hid (Sr.start (z := zB 32) (ty := 36) h (by decide))
  unfold RfOk
  by_cases hgood : s.2 = false ∧ 32 ≤ s.1.length
  · obtain ⟨hs2, hl⟩ := hgood
    have hp : pD s = (s.1.take 32, s.1.drop 32, false) := by unfold pD pDig; rw [if_neg (by omega), hs2]
    rw [hp]
    clear hp h
    go_enter Try.func76, Try.ntmps76
    go_upto_region 2 with (fail)
    generalize (w.alloc (.cells (zB 32).toArray 36)).alloc (.cells (zB 32).toArray 36) = W at *
    obtain ⟨hres, hown, ⟨v, bs, hK, hA, hB, hL, hE⟩, hO, hlo, hrlt, hne⟩ := hS.out
    have hbs := hE hs2
    subst hbs
    rw [hs2] at hK
    obtain ⟨p, cap, rfl, hcap, hz, hcell⟩ := id hA
    have hneB : s.1 ≠ [] := by intro hh; rw [hh] at hl; simp at hl
    obtain ⟨sb, so, rfl, hlt2, hcell⟩ := hcell hneB
    obtain ⟨M, hM⟩ : ∃ M, M = s.1.length := ⟨_, rfl⟩
    rw [← hM] at hK hA hcap hcell hl hL
    have c0 := hK.cell 0
    have c1 := hK.cell 1
    simp only [List.getElem?_cons_zero, List.getElem?_cons_succ] at c0 c1
    have e1 : ((M : Int) < 32) = False := by simp; omega
    have e1' : (32 : Int) ≤ (M : Int) := by omega
    have HM := hid (fun (_ : Nat) => hM)
    have hrB : Hid (rb < w.heap.size) := hrlt
    have HBY := hid hB
    have HLL := hid hL
    have HCAP := hid (fun (_ : Nat) => hcap)
    -- state of the loop
    have HST : Hid (Blk W rb [.slice (some ⟨sb, so, none⟩) M cap, .bool false] 99 ∧ Ap W rb (.slice (some ⟨sb, so, none⟩) M cap) s.1 ∧ Blk W w.heap.size (zB 32) 36 ∧ Blk W (w.heap.size + 1) (((s.1.take 0).map By) ++ zB 32) 36 ∧ Only rb w W) := ⟨hK, hA, hres, hown, hO⟩
    clear hS hres hown hE hO hlo hrlt hne hcell hz hK hA hB hM hL hlt2 hs2
    go_wp2_with fail
    go_loopw [4] (fun iv wr => ∃ i : Nat, i ≤ 32 ∧ iv = .int .i64 (i : Int) ∧ Hid (Blk wr rb [.slice (some ⟨sb, so, none⟩) M cap, .bool false] 99 ∧ Ap wr rb (.slice (some ⟨sb, so, none⟩) M cap) s.1 ∧ Blk wr w.heap.size (zB 32) 36 ∧ Blk wr (w.heap.size + 1) (((s.1.take i).map By) ++ zB (32 - i)) 36 ∧ Only rb w wr)) (fun iv _ => 32 - (intOf iv).toNat)
    case atStart => exact ⟨0, by omega, rfl, HST⟩
    case round =>
      clear HST c0 c1
      obtain ⟨i, hi, rfl, HS⟩ := hrel
      obtain ⟨hK, hA, hR, hD, hO⟩ := HS.out
      have c0 := hK.cell 0
      simp only [List.getElem?_cons_zero] at c0
      by_cases hlt : i < 32
      · obtain ⟨p', cap', he, -, -, hcell⟩ := id hA
        simp only [Value.slice.injEq] at he
        obtain ⟨rfl, -, rfl⟩ := he
        obtain ⟨sb', so', he2, -, hcell⟩ := hcell hneB
        simp only [Option.some.injEq, Addr.mk.injEq] at he2
        obtain ⟨rfl, rfl, -⟩ := he2
        have hx := hcell i (by have := HM.out 0; omega)
        obtain ⟨x, hxe⟩ : ∃ x, x = s.1.getD i 0 := ⟨_, rfl⟩
        rw [← hxe] at hx
        have hx' : wr.cell? ⟨sb, so + i, none⟩ = some (.int .u8 (x : Int)) := hx
        have hiM : i < s.1.length := by have := HM.out 0; omega
        have htk : (s.1.take (i + 1)).map By = (s.1.take i).map By ++ [By x] := by
          rw [List.take_succ_eq_append_getElem hiM, List.map_append, hxe, List.getD_eq_getElem?_getD, List.getElem?_eq_getElem hiM]; rfl
        have htl : ((s.1.take i).map By).length = i := by simp; omega
        have hzB : zB (32 - i) = Value.int .u8 0 :: zB (32 - (i + 1)) := by
          rw [zB_eq, zB_eq, show 32 - i = (32 - (i + 1)) + 1 by omega, List.replicate_succ]
        rw [hzB] at hD
        have d0 : wr.cell? ⟨w.heap.size + 1, i, none⟩ = some (.int .u8 0) := by
          rw [hD.cell, List.getElem?_append_right (by omega), htl, Nat.sub_self]; rfl
        have z0 := hD.frozen i
        have hDn : Hid (Blk (wr.setCell ⟨w.heap.size + 1, i, none⟩ (.int .u8 (x : Int))) (w.heap.size + 1) (((s.1.take (i + 1)).map By) ++ zB (32 - (i + 1))) 36) := by
          have := hD.set i (.int .u8 (x : Int))
          rw [set_midB _ _ _ _ htl] at this
          rw [htk]; exact this
        have hRb := hrB.out
        have hKn : Hid (Blk (wr.setCell ⟨w.heap.size + 1, i, none⟩ (.int .u8 (x : Int))) rb [.slice (some ⟨sb, so, none⟩) M cap, .bool false] 99) := hK.set_ne _ (by show rb ≠ w.heap.size + 1; omega) _
        have hAn : Hid (Ap (wr.setCell ⟨w.heap.size + 1, i, none⟩ (.int .u8 (x : Int))) rb (.slice (some ⟨sb, so, none⟩) M cap) s.1) := hA.stay fun k hk hp => Below.heap_setCell _ _ _ _ (by
          rcases hp with h4 | ⟨h4, cur, fz, h5⟩
          · show k ≠ w.heap.size + 1; omega
          · rintro rfl
            unfold Blk at hD
            rw [hD] at h5
            simp at h5)
        have hRn : Hid (Blk (wr.setCell ⟨w.heap.size + 1, i, none⟩ (.int .u8 (x : Int))) w.heap.size (zB 32) 36) := hR.set_ne _ (by show w.heap.size ≠ w.heap.size + 1; omega) _
        have hOn : Hid (Only rb w (wr.setCell ⟨w.heap.size + 1, i, none⟩ (.int .u8 (x : Int)))) := hO.setNew (by omega) _ _
        have e2 : (i : Int) < 32 := by omega
        have e3 : (0 : Int) ≤ (i : Int) := by omega
        have e4 : (i : Int) < (M : Int) := by omega
        clear hcell hx hxe htk htl hzB hK hA hR hD hO HS
        go_wp2
        exact ⟨⟨i + 1, by omega, by simp, hKn.out, hAn.out, hRn.out, hDn.out, hOn.out⟩, by simp [intOf]; omega⟩
      · obtain rfl : i = 32 := by omega
        have hdr := hA.drop 32 (by have := HM.out 0; omega)
        rw [show zB (32 - 32) = [] from rfl, List.append_nil] at hD
        obtain ⟨E, hE⟩ : ∃ E, E = (s.1.take 32).map By := ⟨_, rfl⟩
        rw [← hE] at hD
        have HEE := hid (fun (_ : Nat) => hE)
        have hEl : E.length = 32 := by rw [hE]; simp; have := HM.out 0; omega
        have hi36 : (Try.prog.info? 36).map (·.size) = some E.length := by rw [hEl]; exact size36
        have hone : Hid (∀ v ∈ E, v.oneCell' = true) := by rw [hE]; exact mapBy_one _
        have z0 := hK.frozen 0
        have HEL := hid (fun (_ : Nat) => hEl)
        have hrb := hrB.out
        have HDR := hid hdr
        have HK := hid hK
        have HA := hid hA
        have HD := hid hD
        have HR := hid hR
        have HO := hid hO
        have HDB : Hid (Byt (s.1.drop 32) ∧ (s.1.drop 32).length < 100000000000) := ⟨HBY.out.drop 32, by rw [List.length_drop]; have := HM.out 0; have := HLL.out; omega⟩
        have HFIN : Hid (∀ sv, Ap wr rb sv (s.1.drop 32) → (wr.setCell ⟨rb, 0, none⟩ sv).rangeAt (w.heap.size + 1) 0 E ∧ (wr.setCell ⟨rb, 0, none⟩ sv).there w.heap.size 0 E.length ∧ Blk ((wr.setCell ⟨rb, 0, none⟩ sv).setCells w.heap.size 0 E) w.heap.size E 36 ∧ RfAt ((wr.setCell ⟨rb, 0, none⟩ sv).setCells w.heap.size 0 E) rb (s.1.drop 32, false) ∧ Only rb w ((wr.setCell ⟨rb, 0, none⟩ sv).setCells w.heap.size 0 E)) := fun sv hsv => by
          have k1 := HK.out.set 0 sv
          have a1 := hsv.only ((Only.refl rb wr).setCell 0 sv)
          have d1 := HD.out.set_ne ⟨rb, 0, none⟩ (by show w.heap.size + 1 ≠ rb; omega) sv
          have r1 := HR.out.set_ne ⟨rb, 0, none⟩ (by show w.heap.size ≠ rb; omega) sv
          have o1 := HO.out.setCell 0 sv
          have rf : RfAt (wr.setCell ⟨rb, 0, none⟩ sv) rb (s.1.drop 32, false) := ⟨sv, _, k1, a1, HDB.out.1, HDB.out.2, fun _ => rfl⟩
          have b1 := Blk.setCells E 0 r1 (by rw [HEL.out 0, zB_length]; omega)
          rw [show over (zB 32) 0 E = E by simp [over, zB_length, HEL.out 0]] at b1
          exact ⟨d1.range, r1.there 0 _ (by rw [HEL.out 0, zB_length]; omega), b1, rf.setsNew (by omega) r1 (by decide) 0 E, o1.setCellsNew (Nat.le_refl _) 0 E⟩
        clear hdr hK hA hR hD hO HS hE hEl HK HA HD HR HO
        by_cases hcs : cap = 32
        · obtain ⟨g1, g2, g3, g4, g5⟩ := HFIN.out _ (HDR.out.1 hcs)
          subst hcs
          rw [show M - 32 = 0 by have := HCAP.out 0; omega] at g1 g2 g3 g4 g5
          clear HFIN HDR
          go_wp2_with (first
            | ((with_reducible refine wpL_load 36 (w.heap.size + 1) 0 E _ ?_ g1 Try.underlying36 ?_ hi36 ?_); (rfl); (rfl); (simp only [Act.put, List.setIfInBounds_toArray, List.set_cons_zero, List.set_cons_succ]))
            | ((with_reducible refine wpL_store 36 w.heap.size 0 E ?_ ?_ g2 hi36 hone.out ?_); (rfl); (rfl); (simp only [Act.put])))
          exact bodyPost_ret (results_array Try.results76 rfl g3 Try.underlying36 rfl hi36) rfl ⟨by rw [HEE.out 0], g4, g5⟩
        · obtain ⟨g1, g2, g3, g4, g5⟩ := HFIN.out _ (HDR.out.2 hcs)
          clear HFIN HDR
          go_wp2_with (first
            | ((with_reducible refine wpL_load 36 (w.heap.size + 1) 0 E _ ?_ g1 Try.underlying36 ?_ hi36 ?_); (rfl); (rfl); (simp only [Act.put, List.setIfInBounds_toArray, List.set_cons_zero, List.set_cons_succ]))
            | ((with_reducible refine wpL_store 36 w.heap.size 0 E ?_ ?_ g2 hi36 hone.out ?_); (rfl); (rfl); (simp only [Act.put])))
          exact bodyPost_ret (results_array Try.results76 rfl g3 Try.underlying36 rfl hi36) rfl ⟨by rw [HEE.out 0], g4, g5⟩
  · have hp : pD s = (List.replicate 32 0, [], true) := by
      cases hb : s.2
      · unfold pD pDig; rw [if_pos (by simp [hb] at hgood; omega)]
      · exact pD_bad hg hb
    rw [hp]
    clear hp h
    go_enter Try.func76, Try.ntmps76
    go_upto_region 2 with (fail)
    generalize (w.alloc (.cells (zB 32).toArray 36)).alloc (.cells (zB 32).toArray 36) = W at *
    have hS2 := hS
    obtain ⟨hres, hown, ⟨v, bs, hK, hA, hB, hL, hE⟩, hO, hlo, hrlt, hne⟩ := hS.out
    obtain ⟨p, cap, rfl, -⟩ := id hA
    have c0 := hK.cell 0
    have c1 := hK.cell 1
    have z1 := hK.frozen 1
    simp only [List.getElem?_cons_zero, List.getElem?_cons_succ] at c0 c1
    have hrf : RfAt (W.setCell ⟨rb, 1, none⟩ (.bool true)) rb ([], true) := ⟨_, bs, hK.set 1 (.bool true), hA.only ((Only.refl rb W).setCell 1 _), hB, hL, fun h => by cases h⟩
    have HS3 := hid (hS.out.call ((Only.refl rb W).setCell 1 (.bool true)) hrf)
    have g1 := HS3.out.own.range
    have g2 := HS3.out.res.there 0 (zB 32).length (by omega)
    obtain ⟨g3, g4, g5⟩ := HS3.out.fin rfl
    have hone : Hid (∀ v ∈ zB 32, v.oneCell' = true) := mapBy_one _
    have hi36 : (Try.prog.info? 36).map (·.size) = some (zB 32).length := by rw [zB_length]; exact size36
    have hcs : s.2 = true ∨ (s.2 = false ∧ bs.length < 32) := by
      cases hb : s.2
      · have := hE hb
        exact Or.inr ⟨rfl, by rw [this]; simp [hb] at hgood; omega⟩
      · exact Or.inl rfl
    have hEq : Hid (∀ X, X = List.replicate 32 0 → X.map By = zB 32) := by rintro X rfl; rfl
    generalize zB 32 = Z at *
    clear hS hS2 HS3 hres hown hK hA hB hL hE hO hlo hrlt hne hrf hgood
    rcases hcs with hb | ⟨hb, hl⟩
    · rw [hb] at c1
      go_wp2_with (first
        | ((with_reducible refine wpL_load 36 (w.heap.size + 1) 0 Z _ ?_ g1 Try.underlying36 ?_ hi36 ?_); (rfl); (rfl); (simp only [Act.put, List.setIfInBounds_toArray, List.set_cons_zero, List.set_cons_succ]))
        | ((with_reducible refine wpL_store 36 w.heap.size 0 Z ?_ ?_ g2 hi36 hone.out ?_); (rfl); (rfl); (simp only [Act.put])))
      exact bodyPost_ret (results_array Try.results76 rfl g3 Try.underlying36 rfl hi36) rfl ⟨by rw [hEq.out _ rfl], g4, g5⟩
    · rw [hb] at c1
      have hl' : (bs.length : Int) < 32 := by omega
      go_wp2_with (first
        | ((with_reducible refine wpL_load 36 (w.heap.size + 1) 0 Z _ ?_ g1 Try.underlying36 ?_ hi36 ?_); (rfl); (rfl); (simp only [Act.put, List.setIfInBounds_toArray, List.set_cons_zero, List.set_cons_succ]))
        | ((with_reducible refine wpL_store 36 w.heap.size 0 Z ?_ ?_ g2 hi36 hone.out ?_); (rfl); (rfl); (simp only [Act.put])))
      exact bodyPost_ret (results_array Try.results76 rfl g3 Try.underlying36 rfl hi36) rfl ⟨by rw [hEq.out _ rfl], g4, g5⟩
end Go.Proofs.Ytpiflgbcbhnmpaa
