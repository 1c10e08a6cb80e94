/- The library's search, insertion and deletion at rows of integers that are the program's own. -/
import Derived.Test.YtnilgnnlobiojaaOwn
import Derived.Test.YtnilgnnlobiojaaShelf
import Derived.Shelf.Slices.Empties
namespace Go.Proofs.Ytnilgnnlobiojaa
open Go.RowKit Go.Shelf
/-- A row of the program's own, block and all. -/
theorem OwnI.blk {w : World} {base : Nat} {v : Value} {xs : List Int} (h : OwnI w base v xs) : (v = .slice none 0 0 ∧ xs = []) ∨ ∃ g l, v = .slice (some ⟨g, 0, none⟩) xs.length l.length ∧ base ≤ g ∧ Blk w g l 3 ∧ xs.length ≤ l.length ∧ l.length ≤ maxLen ∧ l.take xs.length = xs.map I := by
  obtain ⟨_, ⟨rfl, hn⟩ | ⟨g, cap, cur, rfl, hg, hh, hc, hm, hcs, ht⟩⟩ := h
  · exact Or.inl ⟨rfl, List.eq_nil_of_length_eq_zero hn⟩
  · have hcs' : cur.toList.length = cap := by rw [Array.length_toList, hcs, Nat.mul_one]
    refine Or.inr ⟨g, cur.toList, by rw [hcs'], hg, hh, by omega, by omega, by rw [Nat.mul_one] at ht; exact ht⟩
theorem own_of_blk {w : World} {base g : Nat} {l : List Value} {ys : List Int} (h : Blk w g l 3) (hg : base ≤ g) (hn : ys.length ≤ l.length) (hm : l.length ≤ maxLen) (ht : l.take ys.length = ys.map I) : OwnI w base (.slice (some ⟨g, 0, none⟩) ys.length l.length) ys :=
  ⟨by simp, Or.inr ⟨g, l.length, l.toArray, rfl, hg, h, hn, hm, by simp, by simpa using ht⟩⟩
/-- Only block g has turned, and blocks behind are new. -/
theorem gro_set {w : World} {g : Nat} {n c m d : Nat} (o : Nat) (vs : List Value) : Gro w (.slice (some ⟨g, 0, none⟩) n c) (w.setCells g o vs) (.slice (some ⟨g, 0, none⟩) m d) :=
  ⟨(misc_setCells g vs o w).1, (misc_setCells g vs o w).2.1, (misc_setCells g vs o w).2.2, by rw [size_setCells]; exact Nat.le_refl _, fun k _ hk => heap_setCells g vs o w k (fun e => hk (by rw [e]; rfl)), Or.inl rfl⟩
theorem search_any (base : Nat) (v : Value) (xs : List Int) (id : Int) (w : World) (h : OwnI w base v xs) (hs : xs.Pairwise (· < ·)) (hn : xs.length ≤ 1000000) :
    Calls Try.prog 36 #[v, .int .i64 id] w fun e w' => e = .returned (.tuple #[.int .i64 (xs.countP (· < id) : Nat), .bool (xs.contains id)]) ∧ ∃ q, w' = w.drewN q := by
  obtain ⟨p, cap, rfl⟩ := h.form
  rcases Nat.eq_zero_or_pos xs.length with h0 | h0
  · obtain rfl : xs = [] := List.eq_nil_of_length_eq_zero h0
    have hcon := Any.slices_BinarySearch_int_empty Try.laySearch p cap id w
    change Calls Try.prog 36 _ _ _ at hcon
    refine hcon.mono ?_
    rintro e w' ⟨rfl, rfl⟩
    exact ⟨rfl, 0, rfl⟩
  · obtain ⟨sb, so, rfl, hc⟩ := h.ints.pos 0 h0
    have hcon := Any.slices_BinarySearch_int Try.laySearch sb so xs.length cap xs id w (Nat.le_refl _) (by omega) hc (by rw [List.take_length]; exact hs.imp (fun h => Int.le_of_lt h))
    change Calls Try.prog 36 _ _ _ at hcon
    rw [List.take_length] at hcon
    exact hcon
/-- What Insert answers. -/
def OutIns (w : World) (base : Nat) (v : Value) (ys : List Int) (e : Ending) (w' : World) : Prop := ∃ v', e = .returned v' ∧ OwnI w' base v' ys ∧ Gro w v w' v'
theorem take_shift (l X : List Value) (i : Nat) (v : Value) (hX : l.take X.length = X) (hi : i ≤ X.length) (hl : X.length + 1 ≤ l.length) : (over (over l (i + 1) (X.drop i)) i [v]).take (X.length + 1) = X.take i ++ v :: X.drop i ∧ (over (over l (i + 1) (X.drop i)) i [v]).length = l.length := by
  have hti : l.take i = X.take i := by rw [← hX, List.take_take, Nat.min_eq_left hi]
  have e1 : over l (i + 1) (X.drop i) = l.take (i + 1) ++ X.drop i ++ l.drop (X.length + 1) := by
    unfold over; rw [List.length_drop, show i + 1 + (X.length - i) = X.length + 1 by omega]
  have e2 : (over l (i + 1) (X.drop i)).take i = X.take i := by
    rw [e1, List.append_assoc, List.take_append_of_le_length (by rw [List.length_take]; omega), List.take_take, Nat.min_eq_left (by omega), hti]
  have e3 : (over l (i + 1) (X.drop i)).drop (i + 1) = X.drop i ++ l.drop (X.length + 1) := by
    rw [e1, List.append_assoc, List.drop_append_of_le_length (by rw [List.length_take]; omega), List.drop_of_length_le (by rw [List.length_take]; omega)]
    simp
  have e4 : over (over l (i + 1) (X.drop i)) i [v] = X.take i ++ v :: (X.drop i ++ l.drop (X.length + 1)) := by
    generalize over l (i + 1) (X.drop i) = M at *
    unfold over
    rw [show ([v] : List Value).length = 1 from rfl, e2, e3]
    simp
  rw [e4]
  refine ⟨?_, ?_⟩
  · have : X.take i ++ v :: (X.drop i ++ l.drop (X.length + 1)) = (X.take i ++ v :: X.drop i) ++ l.drop (X.length + 1) := by simp
    rw [this, List.take_left' (by simp; omega)]
  · simp; omega
theorem mapI_ins (xs : List Int) (i : Nat) (id : Int) : (xs.take i ++ id :: xs.drop i).map I = (xs.map I).take i ++ I id :: (xs.map I).drop i := by
  rw [List.map_append, List.map_cons, List.map_take, List.map_drop]
theorem ins_len (xs : List Int) (i : Nat) (id : Int) (hi : i ≤ xs.length) : (xs.take i ++ id :: xs.drop i).length = xs.length + 1 := by
  simp; omega
theorem over_len (l : List Value) (o : Nat) (vs : List Value) (h : o + vs.length ≤ l.length) : (over l o vs).length = l.length := by
  unfold over; simp; omega
theorem take_end (l X : List Value) (v : Value) (hX : l.take X.length = X) : (over l X.length [v]).take (X.length + 1) = X ++ [v] := by
  unfold over
  rw [hX, List.take_left' (by simp)]
theorem row_size (X : List Value) (v : Value) (C : Nat) (h : X.length + 1 ≤ C) : ((X ++ [v]).toArray ++ Builtin.zeroCells (Value.int .i64 0).cells (C - (X.length + 1))).size = C := by
  rw [Array.size_append, size_zeroCells, show (Value.int .i64 0).cells.size = 1 from rfl]
  simp; omega
theorem row_take (X : List Value) (v : Value) (A : Array Value) : ((X ++ [v]).toArray ++ A).toList.take (X.length + 1) = X ++ [v] := by
  rw [Array.toList_append, List.take_left' (by simp)]
/-- A row in new memory. -/
theorem new_row {w : World} (base : Nat) (v : Value) (ys : List Int) (C : Nat) {cells : Array Value} (hsz : cells.size = C) (hbase : base ≤ w.heap.size) (hn : ys.length ≤ C) (hm : C ≤ maxLen) (ht : cells.toList.take ys.length = ys.map I) :
    ∃ v', Ending.returned (.slice (some ⟨w.heap.size, 0, none⟩) ys.length C) = .returned v' ∧ OwnI (w.alloc (.cells cells 3)) base v' ys ∧ Gro w v (w.alloc (.cells cells 3)) v' := by
  subst hsz
  refine ⟨_, rfl, ⟨by simp, Or.inr ⟨w.heap.size, cells.size, cells, rfl, hbase, heap_alloc_last w _, hn, hm, by simp, by simpa using ht⟩⟩, ⟨rfl, rfl, rfl, by simp, fun k hk _ => Below.heap_alloc w _ k hk, Or.inr (fun k hk => by simp [Value.ownBlock] at hk; omega)⟩⟩
theorem insert_any (base : Nat) (v : Value) (xs : List Int) (i : Nat) (id : Int) (vb : Nat) (w : World) (h : OwnI w base v xs) (hi : i ≤ xs.length) (hn : xs.length ≤ 1000000) (hb : Blk w vb [.int .i64 id] 3) (hv : v.ownBlock ≠ some vb) (hbase : base ≤ w.heap.size) :
    Calls Try.prog 38 #[v, .int .i64 (i : Int), .slice (some ⟨vb, 0, none⟩) 1 1] w fun e w' => OutIns w base v (xs.take i ++ id :: xs.drop i) e w' := by
  have hvs : ∀ j u, ([.int .i64 id] : List Value)[j]? = some u → w.cell? ⟨vb, 0 + j, none⟩ = some u := fun j u hu => by rw [Nat.zero_add, hb.cell]; exact hu
  have h1v : ∀ u ∈ ([.int .i64 id] : List Value), u.oneCell' = true := by intro u hu; simp at hu; subst hu; rfl
  have hlen := ins_len xs i id hi
  rcases h.blk with ⟨rfl, rfl⟩ | ⟨g, l, rfl, hg, hl, hnl, hlm, ht⟩
  · obtain rfl : i = 0 := by simpa using hi
    have hcon := Any2.slices_Insert_int_end_grow Try.layInsert none 0 0 vb 0 1 1 [] [.int .i64 id] w (by omega) (by omega) (by omega) (by omega) rfl rfl (fun _ => rfl) (by intro a ha; cases ha) hvs h1v
    change Calls Try.prog 38 _ _ _ at hcon
    refine hcon.mono ?_
    rintro e w' ⟨rfl, rfl⟩
    have := new_row (w := w.drew) base (.slice none 0 0) [id] (grownCap w 1 0 3) (row_size [] (I id) _ (grownCap_ge w 1 0 3)) hbase (grownCap_ge w 1 0 3) (grownCap_le_maxLen _ _ _ _ (by simp only [maxLen]; omega)) (row_take [] (I id) _)
    obtain ⟨v', h1, h2, h3⟩ := this
    exact ⟨v', h1, h2, (Gro.refl w _).drew.trans h3⟩
  · have h1c : ∀ u ∈ xs.map I, u.oneCell' = true := mapI_one xs
    have hcs : ∀ j u, (xs.map I)[j]? = some u → w.cell? ⟨g, 0 + j, none⟩ = some u := fun j u hu => by
      rw [Nat.zero_add, hl.cell, ← hu]
      have hj : j < xs.length := by have := (List.getElem?_eq_some_iff.1 hu).1; simpa using this
      have e : (l.take xs.length)[j]? = (xs.map I)[j]? := by rw [ht]
      rw [List.getElem?_take, if_pos hj] at e
      exact e
    have hne : vb ≠ g := fun e => hv (by rw [e]; rfl)
    have hX : (xs.map I).length = xs.length := by simp
    have hid : [Value.int .i64 id] = [I id] := rfl
    by_cases hroom : xs.length + 1 ≤ l.length
    · by_cases hin : i < xs.length
      · have hcon := Any2.slices_Insert_int_shift Try.layInsert g 0 xs.length l.length i vb 0 1 1 (xs.map I) [.int .i64 id] w hin (by omega) hroom (by simp only [maxLen] at hlm; omega) hne hX rfl hcs
          (fun j hj => by rw [Nat.zero_add, hl.cell, List.getElem?_eq_getElem (by omega)]; rfl) (fun j _ => hl.frozen _) hvs h1c h1v 3 3 1 l.length (by simp [World.shape?, show w.heap[vb]? = _ from hb]) (by simp [World.shape?, show w.heap[g]? = _ from hl]) (by omega) (hb.frozen _) (hb.frozen _)
        change Calls Try.prog 38 _ _ _ at hcon
        refine hcon.mono ?_
        rintro e w' ⟨rfl, rfl⟩
        simp only [Nat.zero_add]
        have hs := take_shift l (xs.map I) i (I id) (by rw [hX]; exact ht) (by omega) (by rw [hX]; exact hroom)
        have hB1 := (hl.drew).setCells ((xs.map I).drop i) (i + 1) (by simp; omega)
        have hB2 := hB1.setCells [I id] i (by rw [over_len _ _ _ (by simp; omega)]; simp; omega)
        refine ⟨_, rfl, ?_, ?_⟩
        · have := own_of_blk (base := base) (ys := xs.take i ++ id :: xs.drop i) hB2 hg (by rw [hlen, hs.2]; exact hroom) (by rw [hs.2]; exact hlm) (by rw [hlen, mapI_ins, ← hs.1, hX])
          rw [hlen, hs.2] at this
          exact this
        · exact ((Gro.refl w _).drew.trans (gro_set (i + 1) _)).trans (gro_set (n := xs.length) (c := l.length) i _)
      · obtain rfl : i = xs.length := by omega
        have hcon := Any2.slices_Insert_int_end_room Try.layInsert g 0 xs.length l.length vb 0 1 1 [.int .i64 id] w (by omega) hroom (by simp only [maxLen] at hlm; omega) rfl
          (fun j hj => by rw [hl.cell, List.getElem?_eq_getElem (by omega)]; rfl) (fun j _ => hl.frozen _) hvs h1v
        change Calls Try.prog 38 _ _ _ at hcon
        refine hcon.mono ?_
        rintro e w' ⟨rfl, rfl⟩
        simp only [Nat.zero_add]
        have hB2 := hl.setCells [I id] xs.length (by simp; omega)
        have ho : (over l xs.length [I id]).length = l.length := over_len _ _ _ (by simp; omega)
        refine ⟨_, rfl, ?_, gro_set xs.length _⟩
        have htk := take_end l (xs.map I) (I id) (by rw [hX]; exact ht)
        rw [hX] at htk
        have := own_of_blk (base := base) (ys := xs.take xs.length ++ id :: xs.drop xs.length) hB2 hg (by rw [hlen, ho]; exact hroom) (by rw [ho]; exact hlm) (by
          rw [hlen, htk, List.take_length, List.drop_length, List.map_append]; rfl)
        rw [hlen, ho] at this
        exact this
    · have hcl : l.length < xs.length + 1 := by omega
      by_cases hin : i < xs.length
      · have hcon := Any2.slices_Insert_int_grow Try.layInsert g 0 xs.length l.length i vb 0 1 1 (xs.map I) [.int .i64 id] w hin (by omega) hnl hcl (by omega) hX rfl hcs hvs h1c h1v
        change Calls Try.prog 38 _ _ _ at hcon
        refine hcon.mono ?_
        rintro e w' ⟨rfl, rfl⟩
        change ∃ v', Ending.returned (.slice (some ⟨w.heap.size, 0, none⟩) (xs.length + 1) (grownCap w (xs.length + 1) l.length 3)) = .returned v' ∧ OwnI ((((w.alloc (.cells (((xs.map I).take i).toArray ++ Builtin.zeroCells (Value.int .i64 0).cells (xs.length + 1 - i) ++ Builtin.zeroCells (Value.int .i64 0).cells (grownCap w (xs.length + 1) l.length 3 - (xs.length + 1))) 3)).drew.setCells w.heap.size i [I id]).drew).setCells w.heap.size (i + 1) ((xs.map I).drop i)) base v' (xs.take i ++ id :: xs.drop i) ∧ Gro w (.slice (some ⟨g, 0, none⟩) xs.length l.length) ((((w.alloc (.cells (((xs.map I).take i).toArray ++ Builtin.zeroCells (Value.int .i64 0).cells (xs.length + 1 - i) ++ Builtin.zeroCells (Value.int .i64 0).cells (grownCap w (xs.length + 1) l.length 3 - (xs.length + 1))) 3)).drew.setCells w.heap.size i [I id]).drew).setCells w.heap.size (i + 1) ((xs.map I).drop i)) v'
        have hge := grownCap_ge w (xs.length + 1) l.length 3
        have hle := grownCap_le_maxLen w (xs.length + 1) l.length 3 (by simp only [maxLen]; omega)
        have hB0 : Blk (w.alloc (.cells (((xs.map I).take i).toArray ++ Builtin.zeroCells (Value.int .i64 0).cells (xs.length + 1 - i) ++ Builtin.zeroCells (Value.int .i64 0).cells (grownCap w (xs.length + 1) l.length 3 - (xs.length + 1))) 3)) w.heap.size (((xs.map I).take i).toArray ++ Builtin.zeroCells (Value.int .i64 0).cells (xs.length + 1 - i) ++ Builtin.zeroCells (Value.int .i64 0).cells (grownCap w (xs.length + 1) l.length 3 - (xs.length + 1))).toList 3 := by
          unfold Blk; rw [heap_alloc_last]
        have hL : (((xs.map I).take i).toArray ++ Builtin.zeroCells (Value.int .i64 0).cells (xs.length + 1 - i) ++ Builtin.zeroCells (Value.int .i64 0).cells (grownCap w (xs.length + 1) l.length 3 - (xs.length + 1))).toList.length = grownCap w (xs.length + 1) l.length 3 := by
          rw [Array.length_toList, Array.size_append, Array.size_append, size_zeroCells, size_zeroCells, show (Value.int .i64 0).cells.size = 1 from rfl]
          simp; omega
        have hT : (((xs.map I).take i).toArray ++ Builtin.zeroCells (Value.int .i64 0).cells (xs.length + 1 - i) ++ Builtin.zeroCells (Value.int .i64 0).cells (grownCap w (xs.length + 1) l.length 3 - (xs.length + 1))).toList.take i = (xs.map I).take i := by
          rw [Array.toList_append, Array.toList_append, List.append_assoc, List.take_left' (by simp; omega)]
        generalize grownCap w (xs.length + 1) l.length 3 = G at *
        have hgo : Gro w (.slice (some ⟨g, 0, none⟩) xs.length l.length) (w.alloc (.cells (((xs.map I).take i).toArray ++ Builtin.zeroCells (Value.int .i64 0).cells (xs.length + 1 - i) ++ Builtin.zeroCells (Value.int .i64 0).cells (G - (xs.length + 1))) 3)) (.slice (some ⟨w.heap.size, 0, none⟩) (xs.length + 1) G) :=
          ⟨rfl, rfl, rfl, by simp, fun k hk _ => Below.heap_alloc w _ k hk, Or.inr (fun k hk => by simp [Value.ownBlock] at hk; omega)⟩
        generalize (((xs.map I).take i).toArray ++ Builtin.zeroCells (Value.int .i64 0).cells (xs.length + 1 - i) ++ Builtin.zeroCells (Value.int .i64 0).cells (G - (xs.length + 1))) = A at *
        have hB1 := (hB0.drew).setCells [I id] i (by simp only [List.length_cons, List.length_nil]; omega)
        have ho1 := over_len A.toList i [I id] (by simp only [List.length_cons, List.length_nil]; omega)
        have hB2 := (hB1.drew).setCells ((xs.map I).drop i) (i + 1) (by rw [ho1, List.length_drop, hX]; omega)
        have ho2 := over_len (over A.toList i [I id]) (i + 1) ((xs.map I).drop i) (by rw [ho1, List.length_drop, hX]; omega)
        have htk : (over (over A.toList i [I id]) (i + 1) ((xs.map I).drop i)).take (xs.length + 1) = (xs.map I).take i ++ I id :: (xs.map I).drop i := by
          have e1 : (over A.toList i [I id]).take (i + 1) = (xs.map I).take i ++ [I id] := by
            unfold over
            rw [hT, List.take_left' (by simp; omega)]
          generalize over A.toList i [I id] = M at *
          unfold over
          rw [e1, List.take_left' (by simp; omega)]
          simp
        refine ⟨_, rfl, ?_, (hgo.drew.trans (gro_set (m := xs.length + 1) (d := G) i _)).drew.trans (gro_set (i + 1) _)⟩
        have := own_of_blk (base := base) (ys := xs.take i ++ id :: xs.drop i) hB2 hbase (by rw [hlen, ho2, ho1, hL]; exact hge) (by rw [ho2, ho1, hL]; exact hle) (by rw [hlen, mapI_ins]; exact htk)
        rw [hlen, ho2, ho1, hL] at this
        exact this
      · obtain rfl : i = xs.length := by omega
        have hcon := Any2.slices_Insert_int_end_grow Try.layInsert (some ⟨g, 0, none⟩) xs.length l.length vb 0 1 1 (xs.map I) [.int .i64 id] w (by omega) hnl hcl (by omega) hX rfl (fun h => by cases h) (by
          intro a ha j u hu
          cases ha
          rw [Addr.add_mid]
          exact hcs j u hu) hvs h1v
        change Calls Try.prog 38 _ _ _ at hcon
        refine hcon.mono ?_
        rintro e w' ⟨rfl, rfl⟩
        have hsz := row_size (xs.map I) (I id) (grownCap w (xs.length + 1) l.length 3) (by rw [hX]; exact grownCap_ge _ _ _ _)
        have htk := row_take (xs.map I) (I id) (Builtin.zeroCells (Value.int .i64 0).cells (grownCap w (xs.length + 1) l.length 3 - (xs.length + 1)))
        rw [hX] at hsz htk
        have := new_row (w := w.drew) base (.slice (some ⟨g, 0, none⟩) xs.length l.length) (xs.take xs.length ++ id :: xs.drop xs.length) (grownCap w (xs.length + 1) l.length 3) hsz hbase (by rw [hlen]; exact grownCap_ge _ _ _ _) (grownCap_le_maxLen _ _ _ _ (by simp only [maxLen]; omega)) (by rw [hlen, htk, List.take_length, List.drop_length, List.map_append]; rfl)
        rw [hlen] at this
        obtain ⟨v', h1, h2, h3⟩ := this
        exact ⟨v', h1, h2, (Gro.refl w _).drew.trans h3⟩
theorem blk_put {w : World} {g : Nat} {l : List Value} (h : Blk w g l 3) (d : Array Int) : Blk (Go.Sort.putRow (Value.int .i64) w g 0 d) g (Go.Sort.putCells (Value.int .i64) 0 d l.toArray).toList 3 := by
  unfold Blk at *
  unfold Go.Sort.putRow Go.Sort.mapBlock
  simp [Array.getElem?_modify, h, Go.Sort.onCells]
theorem put_other {w : World} {g : Nat} (d : Array Int) (q k : Nat) (hk : k ≠ g) : (Go.Sort.putRow (Value.int .i64) (Go.Sort.ahead w q) g 0 d).heap[k]? = w.heap[k]? := by
  unfold Go.Sort.putRow Go.Sort.mapBlock
  simp [Array.getElem?_modify, Ne.symm hk, Go.Sort.ahead]
theorem put_get (d : Array Int) (c : Array Value) (k : Nat) (h : k < d.size) (hc : k < c.size) : (Go.Sort.putCells (Value.int .i64) 0 d c)[k]? = some (.int .i64 d[k]!) := by
  unfold Go.Sort.putCells
  simp [h, hc]
/-- What is laid behind a deletion. -/
theorem delete_any (base : Nat) (v : Value) (xs : List Int) (i : Nat) (w : World) (h : OwnI w base v xs) (hi : i < xs.length) (hn : xs.length ≤ 1000000) :
    Calls Try.prog 37 #[v, .int .i64 (i : Int), .int .i64 ((i : Int) + 1)] w fun e w' => OutIns w base v (xs.take i ++ xs.drop (i + 1)) e w' := by
  rcases h.blk with ⟨rfl, rfl⟩ | ⟨g, l, rfl, hg, hl, hnl, hlm, ht⟩
  · simp at hi
  · have hH : Go.Sort.Holds (Value.int .i64) w g 0 xs.toArray := fun j hj => by
      have hj' : j < xs.length := by simpa using hj
      refine ⟨?_, hl.frozen _⟩
      rw [Nat.zero_add, hl.cell]
      have e : (l.take xs.length)[j]? = (xs.map I)[j]? := by rw [ht]
      rw [List.getElem?_take, if_pos hj'] at e
      rw [e]
      simp [hj', I]
    have hcon := Any.slices_Delete_int Try.layDelete g 0 l.length i (i + 1) xs w hH hnl (by simp only [maxLen] at hlm; omega) (by omega) (by omega)
    change Calls Try.prog 37 _ _ _ at hcon
    have ec : ((i : Int) + 1) = ((i + 1 : Nat) : Int) := by omega
    rw [ec]
    refine hcon.mono ?_
    rintro e w' ⟨rfl, q, rfl⟩
    have hlen : (xs.take i ++ xs.drop (i + 1)).length = xs.length - 1 := by simp; omega
    have e1 : xs.length - (i + 1 - i) = (xs.take i ++ xs.drop (i + 1)).length := by rw [hlen]; omega
    rw [e1]
    have hds : (xs.take i ++ xs.drop (i + 1) ++ List.replicate (i + 1 - i) 0).length = xs.length := by simp; omega
    have hB := blk_put (w := Go.Sort.ahead w q) (show Blk (Go.Sort.ahead w q) g l 3 from hl) (xs.take i ++ xs.drop (i + 1) ++ List.replicate (i + 1 - i) 0).toArray
    have hL : (Go.Sort.putCells (Value.int .i64) 0 (xs.take i ++ xs.drop (i + 1) ++ List.replicate (i + 1 - i) 0).toArray l.toArray).toList.length = l.length := by simp [Go.Sort.putCells]
    refine ⟨_, rfl, ?_, ⟨rfl, rfl, rfl, by simp [Go.Sort.ahead], fun k _ hk => put_other _ _ _ (fun e => hk (by rw [e]; rfl)), Or.inl rfl⟩⟩
    have := own_of_blk (base := base) (ys := xs.take i ++ xs.drop (i + 1)) hB hg (by rw [hL, hlen]; omega) (by rw [hL]; exact hlm) (by
      apply List.ext_getElem?
      intro k
      rw [List.getElem?_take]
      by_cases hk : k < (xs.take i ++ xs.drop (i + 1)).length
      · rw [if_pos hk, Array.getElem?_toList, put_get _ _ _ (by simp only [List.size_toArray]; omega) (by simp; omega)]
        have hk2 : k < (xs.take i ++ xs.drop (i + 1) ++ List.replicate (i + 1 - i) 0).length := by omega
        have e2 : (xs.take i ++ xs.drop (i + 1) ++ List.replicate (i + 1 - i) 0).toArray[k]! = (xs.take i ++ xs.drop (i + 1))[k] := by
          rw [getElem!_pos _ k (by simpa using hk2), List.getElem_toArray, List.getElem_append_left hk]
        rw [e2, List.getElem?_map, List.getElem?_eq_getElem hk]; rfl
      · rw [if_neg hk, List.getElem?_eq_none (by rw [List.length_map]; omega)])
    rw [hL] at this
    exact this
end Go.Proofs.Ytnilgnnlobiojaa
