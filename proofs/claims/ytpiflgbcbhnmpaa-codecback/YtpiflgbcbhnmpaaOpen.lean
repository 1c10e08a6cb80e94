/- Arguments that are blocks, sealed commands, results, and lists of them, are opened. -/
import Derived.Test.YtpiflgbcbhnmpaaRowKit
import Derived.Test.YtpiflgbcbhnmpaaWrpl
import Derived.Deep.Slices
import Derived.SizedLaws
namespace Go.Proofs.Ytpiflgbcbhnmpaa
open Go.ChangeShapes Go.WideShapes Go.ChangeAt Go.RowKit
section
variable {H : Type} {enc : TypeId × Value → H} {W : World} {fuel : Nat} {cs : List Value} {x : DataW H × List MemPlace}
/-- The cells cs are read as a value of type t. -/
noncomputable abbrev Tr (enc : TypeId × Value → H) (W : World) (fuel : Nat) (t : TypeId) (cs : List Value) : Option (DataW H × List MemPlace) := DataW.trod enc Try.prog W 0 (fun _ => true) true fuel t cs
theorem tr_bool {t : TypeId} (ht : Try.prog.underlying t = some .bool) (h : Tr enc W fuel t cs = some x) : ∃ b, cs = [.bool b] := by
  cases fuel with
  | zero => simp [DataW.trod] at h
  | succ n =>
    unfold Tr DataW.trod at h
    rw [ht] at h
    split at h <;> simp_all
theorem tr_array {t e : TypeId} {n : Nat} (ht : Try.prog.underlying t = some (.array n e)) (h : Tr enc W fuel t cs = some x) : cs.length = Try.prog.cellsOf t ∧ ∃ m, ∀ i, i < n → ∃ y, Tr enc W m e ((cs.drop (i * Try.prog.cellsOf e)).take (Try.prog.cellsOf e)) = some y := by
  cases fuel with
  | zero => simp [DataW.trod] at h
  | succ m =>
    unfold Tr DataW.trod at h
    rw [ht] at h
    split at h <;> simp_all
    obtain ⟨hl, xs, hp, _⟩ := h
    refine ⟨m, fun i hi => ?_⟩
    have hg := mapM_some_get hp i i (by simp [hi])
    have hlen := mapM_some_length hp
    rw [List.length_range] at hlen
    rw [List.getElem?_eq_getElem (by omega)] at hg
    exact ⟨_, _, hg⟩
theorem cells5 : Try.prog.cellsOf 5 = 1 := by kernel_rfl
theorem cells36 : Try.prog.cellsOf 36 = 32 := by kernel_rfl
theorem cells3 : Try.prog.cellsOf 3 = 1 := by kernel_rfl
theorem cells4 : Try.prog.cellsOf 4 = 1 := by kernel_rfl
theorem cells22 : Try.prog.cellsOf 22 = 1 := by kernel_rfl
theorem cells50 : Try.prog.cellsOf 50 = 2 := by kernel_rfl
theorem cells52 : Try.prog.cellsOf 52 = 6 := by kernel_rfl
theorem cells45 : Try.prog.cellsOf 45 = 1 := by kernel_rfl
theorem cells37 : Try.prog.cellsOf 37 = 1 := by kernel_rfl
theorem cells41 : Try.prog.cellsOf 41 = 67 := by kernel_rfl
theorem by52 : Try.prog.bytesOf 52 = 48 := by kernel_rfl
theorem by47 : Try.prog.bytesOf 47 = 88 := by kernel_rfl
theorem by39 : Try.prog.bytesOf 39 = 128 := by kernel_rfl
theorem take_one {l : List Value} {i : Nat} {v : Value} (h : (l.drop i).take 1 = [v]) : l[i]? = some v := by
  have := congrArg (fun z => z[0]?) h
  simpa using this
theorem tr_dig (h : Tr enc W fuel 36 cs = some x) : ∃ ds : List Nat, ds.length = 32 ∧ Byt ds ∧ cs = ds.map By := by
  obtain ⟨hl, m, hm⟩ := tr_array Try.underlying36 h
  rw [cells36] at hl
  simp only [cells5, Nat.mul_one] at hm
  have hb : ∀ i, i < 32 → ∃ z : Nat, cs[i]? = some (By z) ∧ z < 256 := fun i hi => by
    obtain ⟨y, hy⟩ := hm i hi
    obtain ⟨n, e1, _, e3⟩ := DataW.trod_int Try.underlying5 hy
    have hw := bounds_u8 e3
    refine ⟨n.toNat, ?_, by omega⟩
    rw [take_one e1]
    unfold By
    congr 2
    omega
  obtain ⟨f, hf⟩ := Go.Deep.choose_lt hb
  refine ⟨(List.range 32).map f, by simp, fun y hy => ?_, ?_⟩
  · obtain ⟨i, hi, rfl⟩ := List.mem_map.1 hy
    exact (hf i (List.mem_range.1 hi)).2
  · apply List.ext_getElem?
    intro i
    by_cases hi : i < 32
    · rw [(hf i hi).1]; simp [hi]
    · rw [List.getElem?_eq_none (by omega), List.getElem?_eq_none (by simp; omega)]
theorem tr_int {t : TypeId} {k : IntKind} (ht : Try.prog.underlying t = some (.int k)) {i : Nat} (h : Tr enc W fuel t ((cs.drop i).take 1) = some x) : ∃ n, cs[i]? = some (.int k n) ∧ (Lit.int k n).wf = true := by
  obtain ⟨n, e1, _, e3⟩ := DataW.trod_int ht h
  exact ⟨n, take_one e1, e3⟩
/-- What is met in reading weighs no more than a machine holds. -/
def Light (x : DataW H) (t : TypeId) : Prop := ∀ n ∈ x.weights Try.prog t, n ≤ reachBytes
theorem weights_all {e : TypeId} : ∀ {ds : List (DataW H)} {d : DataW H}, d ∈ ds → ∀ n ∈ d.weights Try.prog e, n ∈ DataW.weightsAll Try.prog e ds
  | c :: r, d, h, n, hn => by
    rw [DataW.weightsAll]
    rcases List.mem_cons.1 h with rfl | h
    · exact List.mem_append_left _ hn
    · exact List.mem_append_right _ (weights_all h n hn)
/-- A slice that is light: its length, and its elements. -/
theorem Light.slice {t e : TypeId} {elems spare : List (DataW H)} (hu : Try.prog.underlying t = some (.slice e)) (h : Light (.slice elems spare) t) : elems.length * Try.prog.bytesOf e ≤ reachBytes ∧ ∀ d ∈ elems, Light d e := by
  unfold Light at *
  simp only [DataW.weights, hu] at h
  refine ⟨Nat.le_trans (Nat.mul_le_mul_right _ (Nat.le_add_right _ _)) (h _ (List.mem_cons_self ..)), fun d hd n hn => h n (List.mem_cons_of_mem _ (List.mem_append_left _ (weights_all hd n hn)))⟩
/-- The fields of a struct. -/
theorem tr_fields {t : TypeId} {fs : Array Field} (ht : Try.prog.underlying t = some (.struct fs)) (h : Tr enc W fuel t cs = some x) : cs.length = Try.prog.cellsOf t ∧ ∃ n, ∀ (i : Nat) (f : Field) (ty off k : Nat), fs[i]? = some f → f.type = ty → f.offset = off → Try.prog.cellsOf ty = k → ∃ y, Tr enc W n ty ((cs.drop off).take k) = some y ∧ (Light x.1 t → Light y.1 ty) := by
  obtain ⟨xs, n, _, hxx, hl, hx, hf⟩ := DataW.trod_struct ht h
  refine ⟨hl, n, fun i f ty off k hi e1 e2 e3 => ?_⟩
  have := hf i f hi
  have hlt : i < fs.size := (Array.getElem?_eq_some_iff.1 hi).1
  rw [List.getElem?_eq_getElem (by omega), e1, e2, e3] at this
  refine ⟨_, this, fun hL n' hn => ?_⟩
  apply hL
  rw [hxx]
  simp only [DataW.weights, ht]
  refine DataW.weights_mem_each (j := i) (t := ty) (d := (xs[i]'(by omega)).1) ?_ ?_ n' hn
  · rw [List.getElem?_map, Array.getElem?_toList, hi]; simp [e1]
  · rw [List.getElem?_map, List.getElem?_eq_getElem (by omega)]; rfl
theorem tr_cmd (h : Tr enc W fuel 52 cs = some x) : ∃ c : C6, cs = c.cells := by
  obtain ⟨hl, n, hf⟩ := tr_fields Try.underlying52 h
  rw [cells52] at hl
  obtain ⟨y0, h0, lh0⟩ := hf 0 _ 3 0 1 rfl rfl rfl cells3
  obtain ⟨y1, h1, lh1⟩ := hf 1 _ 3 1 1 rfl rfl rfl cells3
  obtain ⟨y2, h2, lh2⟩ := hf 2 _ 3 2 1 rfl rfl rfl cells3
  obtain ⟨y3, h3, lh3⟩ := hf 3 _ 3 3 1 rfl rfl rfl cells3
  obtain ⟨y4, h4, lh4⟩ := hf 4 _ 50 4 2 rfl rfl rfl cells50
  obtain ⟨a0, e0, _⟩ := tr_int Try.underlying3 h0
  obtain ⟨a1, e1, _⟩ := tr_int Try.underlying3 h1
  obtain ⟨a2, e2, _⟩ := tr_int Try.underlying3 h2
  obtain ⟨a3, e3, _⟩ := tr_int Try.underlying3 h3
  obtain ⟨_, m, hg⟩ := tr_fields Try.underlying50 h4
  obtain ⟨z0, g0, lg0⟩ := hg 0 _ 3 0 1 rfl rfl rfl cells3
  obtain ⟨z1, g1, lg1⟩ := hg 1 _ 3 1 1 rfl rfl rfl cells3
  obtain ⟨b0, e4, _⟩ := tr_int Try.underlying3 g0
  obtain ⟨b1, e5, _⟩ := tr_int Try.underlying3 g1
  refine ⟨⟨a0, a1, a2, a3, b0, b1⟩, ?_⟩
  match cs, hl with
  | [c0, c1, c2, c3, c4, c5], _ =>
    simp at e0 e1 e2 e3 e4 e5
    subst e0 e1 e2 e3 e4 e5
    rfl
theorem tr_cell {t : TypeId} {i : Nat} (hl : i < cs.length) (h : Tr enc W fuel t ((cs.drop i).take 1) = some x) : ∃ v, cs[i]? = some v ∧ Tr enc W fuel t [v] = some x := by
  refine ⟨cs[i], List.getElem?_eq_getElem hl, ?_⟩
  rw [List.drop_eq_getElem_cons hl, List.take_succ_cons, List.take_zero] at h
  exact h
/-- A list of commands. -/
theorem tr_cmds {cv : Value} (h : Tr enc W fuel 45 [cv] = some x) (hL : Light x.1 45) : ∃ (q : Option Addr) (c : Nat) (cs : List C6), cv = .slice q cs.length c ∧ CmdsAt W (.slice q cs.length c) cs ∧ (0 < cs.length → ∀ a, q = some a → a.block < W.heap.size) ∧ cs.length ≤ 1000000000000000 := by
  rcases Go.Deep.open_slice Try.underlying45 h with ⟨e, _⟩ | ⟨a, len, cap, m, n, D, Pl, e, _, hlc, hcm, hm, hxe, hx⟩
  · simp at e
    subst e
    exact ⟨none, 0, [], rfl, ⟨none, 0, rfl, fun hne => absurd rfl hne⟩, fun h0 => by simp at h0, by simp⟩
  · simp at e
    subst e
    simp only [cells52, if_true] at hx hm
    rw [hxe] at hL
    have hbd := (Light.slice Try.underlying45 hL).1
    have hLe := (Light.slice Try.underlying45 hL).2
    rw [by52] at hbd
    simp only [List.length_map, List.length_range, reachBytes] at hbd
    subst hm
    have hc : ∀ i, i < len → ∃ c : C6, W.cells? 0 (a.add (i * 6)) 6 = some c.cells := fun i hi => by
      obtain ⟨cs', h1, h2⟩ := hx i (by omega)
      obtain ⟨c, rfl⟩ := tr_cmd h2
      exact ⟨c, h1⟩
    obtain ⟨f, hf⟩ := @Go.Deep.choose_lt C6 ⟨⟨0, 0, 0, 0, 0, 0⟩⟩ _ _ hc
    have hcell : ∀ i, i < len → ∀ j u, (f i).cells[j]? = some u → W.cell? (a.add (i * 6 + j)) = some u := fun i hi j u hu => by
      obtain ⟨_, _, h3⟩ := World.cells?_some (hf i hi)
      have hj : j < 6 := (List.getElem?_eq_some_iff.1 hu).1
      have := h3 j hj
      rw [Go.Deep.add_add, hu] at this
      exact this
    refine ⟨some a, m, (List.range len).map f, by simp, ⟨some a, m, rfl, fun hne => ?_⟩, fun h0 b hb => ?_, by simp; omega⟩
    · have h0 : 0 < len := by
        rcases Nat.eq_zero_or_pos len with h | h
        · subst h; simp at hne
        · exact h
      have hc0 := hcell 0 h0 0 _ rfl
      obtain ⟨b, o, spot⟩ := a
      have hspot : spot = .none := by simpa [Addr.add] using World.cell?_spot hc0
      subst hspot
      refine ⟨b, o, rfl, fun i c hi j u hu => ?_⟩
      have hil : i < len := by have := (List.getElem?_eq_some_iff.1 hi).1; simpa using this
      have : c = f i := by simp [hil] at hi; exact hi.symm
      subst this
      have := hcell i hil j u hu
      rw [Addr.add_mid] at this
      rw [← this]
      congr 2
      omega
    · cases hb
      have h0' : 0 < len := by simpa using h0
      have hc0 := hcell 0 h0' 0 _ rfl
      have := lt_of_cell hc0
      simpa [Addr.add] using this
theorem co47 : Try.prog.cellsOf 47 = 37 := by kernel_rfl
theorem co39 : Try.prog.cellsOf 39 = 98 := by kernel_rfl
/-- What every value of these types keeps to. -/
structure SdRaw (d : Sd) : Prop where
  m : d.m < 18446744073709551616
  tg : d.tag.length = 32
  bt : Byt d.tag
  c : d.cs.length ≤ 1000000000000000
structure BkRaw (k : Bk) : Prop where
  p : k.pv.length = 32 ∧ Byt k.pv
  r : k.rt.length = 32 ∧ Byt k.rt
  s : k.st.length = 32 ∧ Byt k.st
  d : ∀ d ∈ k.ds, SdRaw d
  l : k.ds.length ≤ 1000000000000000
structure RsRaw (r : Rs) : Prop where
  m : r.m < 18446744073709551616
  la : r.la.length = 32 ∧ Byt r.la
  tg : r.tg.length = 32 ∧ Byt r.tg
theorem tr_sealed (h : Tr enc W fuel 47 cs = some x) (hL : Light x.1 47) : ∃ (d : Sd) (q : Option Addr) (c : Nat), cs = d.cells (.slice q d.cs.length c) ∧ SdRaw d ∧ CmdsAt W (.slice q d.cs.length c) d.cs ∧ (0 < d.cs.length → ∀ a, q = some a → a.block < W.heap.size) ∧ d.cs.length ≤ 1000000000000000 := by
  obtain ⟨hl, n, hf⟩ := tr_fields Try.underlying47 h
  rw [co47] at hl
  obtain ⟨y0, h0, lh0⟩ := hf 0 _ 22 0 1 rfl rfl rfl cells22
  obtain ⟨y1, h1, lh1⟩ := hf 1 _ 3 1 1 rfl rfl rfl cells3
  obtain ⟨y2, h2, lh2⟩ := hf 2 _ 3 2 1 rfl rfl rfl cells3
  obtain ⟨y3, h3, lh3⟩ := hf 3 _ 4 3 1 rfl rfl rfl cells4
  obtain ⟨y4, h4, lh4⟩ := hf 4 _ 45 4 1 rfl rfl rfl cells45
  obtain ⟨y5, h5, lh5⟩ := hf 5 _ 36 5 32 rfl rfl rfl cells36
  obtain ⟨a0, e0, w0⟩ := tr_int Try.underlying22 h0
  obtain ⟨a1, e1, _⟩ := tr_int Try.underlying3 h1
  obtain ⟨a2, e2, _⟩ := tr_int Try.underlying3 h2
  obtain ⟨b3, e3'⟩ := tr_bool Try.underlying4 h3
  have e3 := take_one e3'
  obtain ⟨cv, e4, h4'⟩ := tr_cell (by omega) h4
  obtain ⟨q, c, ccs, rfl, hC, hq, hmx⟩ := tr_cmds h4' (lh4 hL)
  obtain ⟨tag, t1, t2, t3⟩ := tr_dig h5
  have hw := bounds_u64 w0
  refine ⟨⟨a0.toNat, a1, a2, b3, ccs, tag⟩, q, c, ?_, ⟨by show a0.toNat < _; omega, t1, t2, hmx⟩, hC, hq, hmx⟩
  match cs, hl with
  | c0 :: c1 :: c2 :: c3 :: c4 :: rest, hl =>
    simp at e0 e1 e2 e3 e4 hl t3
    rw [List.take_of_length_le (by omega)] at t3
    subst e0 e1 e2 e3 e4 t3
    unfold Sd.cells
    simp only
    rw [show ((a0.toNat : Nat) : Int) = a0 by omega]
theorem tr_sds {v : Value} (h : Tr enc W fuel 37 [v] = some x) (hL : Light x.1 37) : ∃ (q : Option Addr) (c : Nat) (ds : List Sd), v = .slice q ds.length c ∧ SdsLo W W.heap.size (.slice q ds.length c) ds ∧ (∀ d ∈ ds, SdRaw d) ∧ ds.length ≤ 1000000000000000 := by
  rcases Go.Deep.open_slice Try.underlying37 h with ⟨e, _⟩ | ⟨a, len, cap, m, n, D, Pl, e, _, hlc, hcm, hm, hxe, hx⟩
  · simp at e
    subst e
    exact ⟨none, 0, [], rfl, ⟨none, 0, [], rfl, rfl, fun i d es hd => by simp at hd, fun hne => absurd rfl hne⟩, fun d hd => by simp at hd, by simp⟩
  · simp at e
    subst e
    simp only [co47, if_true] at hx hm
    rw [hxe] at hL
    have hbd := (Light.slice Try.underlying37 hL).1
    have hLe := (Light.slice Try.underlying37 hL).2
    rw [by47] at hbd
    simp only [List.length_map, List.length_range, reachBytes] at hbd
    subst hm
    have hc : ∀ i, i < len → ∃ z : Sd × List Value, W.cells? 0 (a.add (i * 37)) 37 = some z.2 ∧ SdRaw z.1 ∧ ∃ (q : Option Addr) (c : Nat), z.2 = z.1.cells (.slice q z.1.cs.length c) ∧ CmdsAt W (.slice q z.1.cs.length c) z.1.cs ∧ (0 < z.1.cs.length → ∀ a, q = some a → a.block < W.heap.size) := fun i hi => by
      obtain ⟨cs', h1, h2⟩ := hx i (by omega)
      obtain ⟨d, q, c, g1, g2, g3, g4, _⟩ := tr_sealed h2 (hLe _ (List.mem_map.2 ⟨i, List.mem_range.2 hi, rfl⟩))
      exact ⟨(d, cs'), h1, g2, q, c, g1, g3, g4⟩
    obtain ⟨f, hf⟩ := @Go.Deep.choose_lt (Sd × List Value) ⟨(sd0, [])⟩ _ _ hc
    have hcell : ∀ i, i < len → ∀ j u, (f i).2[j]? = some u → W.cell? (a.add (i * 37 + j)) = some u := fun i hi j u hu => by
      obtain ⟨_, h2, h3⟩ := World.cells?_some (hf i hi).1
      have hj : j < 37 := by have := (List.getElem?_eq_some_iff.1 hu).1; omega
      have := h3 j hj
      rw [Go.Deep.add_add, hu] at this
      exact this
    have hlen : ∀ i, i < len → (f i).2.length = 37 := fun i hi => (World.cells?_some (hf i hi).1).2.1
    refine ⟨some a, m, (List.range len).map fun i => (f i).1, by simp, ⟨some a, m, (List.range len).map fun i => (f i).2, by simp, by simp, fun i d es hd he => ?_, fun hne => ?_⟩, fun d hd => ?_, by simp; omega⟩
    · have hil : i < len := by have := (List.getElem?_eq_some_iff.1 hd).1; simpa using this
      have e1 : d = (f i).1 := by simp [hil] at hd; exact hd.symm
      have e2 : es = (f i).2 := by simp [hil] at he; exact he.symm
      subst e1 e2
      obtain ⟨_, _, q, c, g1, g2, g3⟩ := hf i hil
      exact ⟨hlen i hil, q, c, g1, g2, g3⟩
    · have h0 : 0 < len := by
        rcases Nat.eq_zero_or_pos len with h | h
        · subst h; simp at hne
        · exact h
      have hc0 := hcell 0 h0 0 _ (List.getElem?_eq_getElem (by rw [hlen 0 h0]; omega))
      have hlt := lt_of_cell hc0
      obtain ⟨b, o, spot⟩ := a
      have hspot : spot = .none := by simpa [Addr.add] using World.cell?_spot hc0
      subst hspot
      refine ⟨b, o, rfl, by simpa [Addr.add] using hlt, fun i es hi j u hu => ?_⟩
      have hil : i < len := by have := (List.getElem?_eq_some_iff.1 hi).1; simpa using this
      have e2 : es = (f i).2 := by simp [hil] at hi; exact hi.symm
      subst e2
      have := hcell i hil j u hu
      rw [Addr.add_mid] at this
      rw [← this]
      congr 2
      omega
    · obtain ⟨i, hi, rfl⟩ := List.mem_map.1 hd
      exact (hf i (List.mem_range.1 hi)).2.1
theorem tr_block (h : Tr enc W fuel 39 cs = some x) (hL : Light x.1 39) : ∃ (k : Bk) (q : Option Addr) (c : Nat), cs = k.cells (.slice q k.ds.length c) ∧ BkRaw k ∧ SdsLo W W.heap.size (.slice q k.ds.length c) k.ds ∧ k.ds.length ≤ 1000000000000000 := by
  obtain ⟨hl, n, hf⟩ := tr_fields Try.underlying39 h
  rw [co39] at hl
  obtain ⟨y0, h0, lh0⟩ := hf 0 _ 3 0 1 rfl rfl rfl cells3
  obtain ⟨y1, h1, lh1⟩ := hf 1 _ 36 1 32 rfl rfl rfl cells36
  obtain ⟨y2, h2, lh2⟩ := hf 2 _ 36 33 32 rfl rfl rfl cells36
  obtain ⟨y3, h3, lh3⟩ := hf 3 _ 36 65 32 rfl rfl rfl cells36
  obtain ⟨y4, h4, lh4⟩ := hf 4 _ 37 97 1 rfl rfl rfl cells37
  obtain ⟨a0, e0, _⟩ := tr_int Try.underlying3 h0
  obtain ⟨pv, p1, p2, p3⟩ := tr_dig h1
  obtain ⟨rt, r1, r2, r3⟩ := tr_dig h2
  obtain ⟨st, s1, s2, s3⟩ := tr_dig h3
  obtain ⟨v, e4, h4'⟩ := tr_cell (by omega) h4
  obtain ⟨q, c, ds, rfl, hD, hR, hmx⟩ := tr_sds h4' (lh4 hL)
  refine ⟨⟨a0, pv, rt, st, ds⟩, q, c, ?_, ⟨⟨p1, p2⟩, ⟨r1, r2⟩, ⟨s1, s2⟩, hR, hmx⟩, hD, hmx⟩
  unfold Bk.cells bkL
  rw [← p3, ← r3, ← s3]
  have hlt : 97 < cs.length := by omega
  have d97 : cs.drop 97 = [.slice q ds.length c] := by
    rw [List.drop_eq_getElem_cons hlt, List.drop_eq_nil_of_le (by omega)]
    rw [List.getElem?_eq_getElem hlt] at e4
    rw [Option.some.inj e4]
  have g0 : cs = .int .i64 a0 :: cs.drop 1 := by
    have h9 : 0 < cs.length := by omega
    rw [List.getElem?_eq_getElem h9] at e0
    conv => lhs; rw [← List.drop_zero (l := cs), List.drop_eq_getElem_cons h9]
    rw [Option.some.inj e0]
  have g1 : cs.drop 1 = (cs.drop 1).take 32 ++ cs.drop 33 := by
    conv => lhs; rw [← List.take_append_drop 32 (cs.drop 1)]
    rw [List.drop_drop]
  have g2 : cs.drop 33 = (cs.drop 33).take 32 ++ cs.drop 65 := by
    conv => lhs; rw [← List.take_append_drop 32 (cs.drop 33)]
    rw [List.drop_drop]
  have g3 : cs.drop 65 = (cs.drop 65).take 32 ++ cs.drop 97 := by
    conv => lhs; rw [← List.take_append_drop 32 (cs.drop 65)]
    rw [List.drop_drop]
  simp only
  rw [← d97, ← g3, ← g2, ← g1, ← g0]
theorem tr_bks {v : Value} (h : Tr enc W fuel 43 [v] = some x) (hL : Light x.1 43) : ∃ (q : Option Addr) (c : Nat) (ks : List Bk), v = .slice q ks.length c ∧ BksLo W W.heap.size (.slice q ks.length c) ks ∧ (∀ k ∈ ks, BkRaw k) ∧ ks.length ≤ 1000000000000000 := by
  rcases Go.Deep.open_slice Try.underlying43 h with ⟨e, _⟩ | ⟨a, len, cap, m, n, D, Pl, e, _, hlc, hcm, hm, hxe, hx⟩
  · simp at e
    subst e
    exact ⟨none, 0, [], rfl, ⟨none, 0, [], rfl, rfl, fun i d es hd => by simp at hd, fun hne => absurd rfl hne⟩, fun d hd => by simp at hd, by simp⟩
  · simp at e
    subst e
    simp only [co39, if_true] at hx hm
    rw [hxe] at hL
    have hbd := (Light.slice Try.underlying43 hL).1
    have hLe := (Light.slice Try.underlying43 hL).2
    rw [by39] at hbd
    simp only [List.length_map, List.length_range, reachBytes] at hbd
    subst hm
    have hc : ∀ i, i < len → ∃ z : Bk × List Value, W.cells? 0 (a.add (i * 98)) 98 = some z.2 ∧ BkRaw z.1 ∧ ∃ (q : Option Addr) (c : Nat), z.2 = z.1.cells (.slice q z.1.ds.length c) ∧ SdsLo W W.heap.size (.slice q z.1.ds.length c) z.1.ds := fun i hi => by
      obtain ⟨cs', h1, h2⟩ := hx i (by omega)
      obtain ⟨d, q, c, g1, g2, g3, _⟩ := tr_block h2 (hLe _ (List.mem_map.2 ⟨i, List.mem_range.2 hi, rfl⟩))
      exact ⟨(d, cs'), h1, g2, q, c, g1, g3⟩
    obtain ⟨f, hf⟩ := @Go.Deep.choose_lt (Bk × List Value) ⟨(bk0, [])⟩ _ _ hc
    have hcell : ∀ i, i < len → ∀ j u, (f i).2[j]? = some u → W.cell? (a.add (i * 98 + j)) = some u := fun i hi j u hu => by
      obtain ⟨_, h2, h3⟩ := World.cells?_some (hf i hi).1
      have hj : j < 98 := by have := (List.getElem?_eq_some_iff.1 hu).1; omega
      have := h3 j hj
      rw [Go.Deep.add_add, hu] at this
      exact this
    have hlen : ∀ i, i < len → (f i).2.length = 98 := fun i hi => (World.cells?_some (hf i hi).1).2.1
    refine ⟨some a, m, (List.range len).map fun i => (f i).1, by simp, ⟨some a, m, (List.range len).map fun i => (f i).2, by simp, by simp, fun i d es hd he => ?_, fun hne => ?_⟩, fun d hd => ?_, by simp; omega⟩
    · have hil : i < len := by have := (List.getElem?_eq_some_iff.1 hd).1; simpa using this
      have e1 : d = (f i).1 := by simp [hil] at hd; exact hd.symm
      have e2 : es = (f i).2 := by simp [hil] at he; exact he.symm
      subst e1 e2
      obtain ⟨_, _, q, c, g1, g2⟩ := hf i hil
      exact ⟨hlen i hil, q, c, g1, g2⟩
    · have h0 : 0 < len := by
        rcases Nat.eq_zero_or_pos len with h | h
        · subst h; simp at hne
        · exact h
      have hc0 := hcell 0 h0 0 _ (List.getElem?_eq_getElem (by rw [hlen 0 h0]; omega))
      have hlt := lt_of_cell hc0
      obtain ⟨b, o, spot⟩ := a
      have hspot : spot = .none := by simpa [Addr.add] using World.cell?_spot hc0
      subst hspot
      refine ⟨b, o, rfl, by simpa [Addr.add] using hlt, fun i es hi j u hu => ?_⟩
      have hil : i < len := by have := (List.getElem?_eq_some_iff.1 hi).1; simpa using this
      have e2 : es = (f i).2 := by simp [hil] at hi; exact hi.symm
      subst e2
      have := hcell i hil j u hu
      rw [Addr.add_mid] at this
      rw [← this]
      congr 2
      omega
    · obtain ⟨i, hi, rfl⟩ := List.mem_map.1 hd
      exact (hf i (List.mem_range.1 hi)).2.1
theorem tr_res (h : Tr enc W fuel 41 cs = some x) : ∃ r : Rs, cs = r.cells ∧ RsRaw r := by
  obtain ⟨hl, n, hf⟩ := tr_fields Try.underlying41 h
  rw [cells41] at hl
  obtain ⟨y0, h0, lh0⟩ := hf 0 _ 22 0 1 rfl rfl rfl cells22
  obtain ⟨y1, h1, lh1⟩ := hf 1 _ 3 1 1 rfl rfl rfl cells3
  obtain ⟨y2, h2, lh2⟩ := hf 2 _ 3 2 1 rfl rfl rfl cells3
  obtain ⟨y3, h3, lh3⟩ := hf 3 _ 36 3 32 rfl rfl rfl cells36
  obtain ⟨y4, h4, lh4⟩ := hf 4 _ 36 35 32 rfl rfl rfl cells36
  obtain ⟨a0, e0, w0⟩ := tr_int Try.underlying22 h0
  obtain ⟨a1, e1, _⟩ := tr_int Try.underlying3 h1
  obtain ⟨a2, e2, _⟩ := tr_int Try.underlying3 h2
  obtain ⟨la, l1, l2, l3⟩ := tr_dig h3
  obtain ⟨tg, t1, t2, t3⟩ := tr_dig h4
  have hw := bounds_u64 w0
  refine ⟨⟨a0.toNat, a1, a2, la, tg⟩, ?_, ⟨by show a0.toNat < _; omega, ⟨l1, l2⟩, ⟨t1, t2⟩⟩⟩
  unfold Rs.cells rsC
  match cs, hl with
  | c0 :: c1 :: c2 :: rest, hl =>
    simp at e0 e1 e2 hl l3 t3
    rw [List.take_of_length_le (by simp; omega)] at t3
    subst e0 e1 e2
    simp only
    rw [show ((a0.toNat : Nat) : Int) = a0 by omega, ← l3, ← t3, List.take_append_drop]
end
end Go.Proofs.Ytpiflgbcbhnmpaa
