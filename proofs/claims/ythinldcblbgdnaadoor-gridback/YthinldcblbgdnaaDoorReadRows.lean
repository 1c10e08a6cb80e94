/- readRows. -/
import Derived.Test.YthinldcblbgdnaaDoorRows5
import Derived.Test.YthinldcblbgdnaaDoorSmall
import Derived.Deep.DeepCutAuto
namespace Go.Proofs.YthinldcblbgdnaaDoor
open Go.RowKit
def OutRows (w : World) (s : ByteArray) (e : Ending) (w' : World) : Prop := ∃ v, e = .returned (.tuple #[v, .bool (okRows s)]) ∧ MapAt w' v (mapOf s) ∧ Below w.heap.size w w'
theorem zero_map (w : World) : MapAt w (.agg #[.int .i64 0, .int .i64 0, .slice none 0 0, .slice none 0 0]) ⟨0, 0, [], []⟩ :=
  ⟨none, 0, none, 0, rfl, ⟨_, 0, rfl, by simp, fun _ => rfl, fun h => absurd rfl h⟩, ⟨_, 0, rfl, by simp, fun _ => rfl, fun h => absurd rfl h⟩⟩
theorem size24 : (Tryd.prog.info? 24).map (·.size) = some 4 := by kernel_rfl
theorem tiles_len {n : Nat} : ∀ l : List ByteArray, l.all (rowOk n) = true → (tilesOf l).length = l.length * n ∧ (oresOf l).length = l.length * n
  | [], _ => ⟨by simp [tilesOf], by simp [oresOf]⟩
  | r :: l, h => by
    rw [List.all_cons, Bool.and_eq_true] at h
    have ih := tiles_len l h.2
    have hr : r.size = n := by have := h.1; simp [rowOk] at this; exact this.1
    have e1 : tilesOf (r :: l) = (byt r).map sgnT ++ tilesOf l := rfl
    have e2 : oresOf (r :: l) = (byt r).map sgnO ++ oresOf l := rfl
    rw [e1, e2, List.length_append, List.length_append, ih.1, ih.2, List.length_map, List.length_map, byt_length, hr, List.length_cons, Nat.add_mul, Nat.one_mul]
    omega
theorem take_tiles {l : List ByteArray} {i : Nat} (h : i < l.length) : tilesOf (l.take (i + 1)) = tilesOf (l.take i) ++ (byt (l.getD i ByteArray.empty)).map sgnT ∧ oresOf (l.take (i + 1)) = oresOf (l.take i) ++ (byt (l.getD i ByteArray.empty)).map sgnO := by
  have e : l.take (i + 1) = l.take i ++ [l.getD i ByteArray.empty] := by rw [List.take_add_one]; simp [h]
  rw [e]
  exact ⟨by simp [tilesOf], by simp [oresOf]⟩
theorem all_take {l : List ByteArray} {i n : Nat} (h : i < l.length) (ha : (l.take i).all (rowOk n) = true) (hr : rowOk n (l.getD i ByteArray.empty) = true) : (l.take (i + 1)).all (rowOk n) = true := by
  have e : l.take (i + 1) = l.take i ++ [l.getD i ByteArray.empty] := by rw [List.take_add_one]; simp [h]
  rw [e, List.all_append, ha]
  simpa using hr
theorem all_false {l : List ByteArray} {i n : Nat} (h : i < l.length) (hr : rowOk n (l.getD i ByteArray.empty) = false) : l.all (rowOk n) = false := by
  rw [List.all_eq_false]
  exact ⟨l.getD i ByteArray.empty, by simp [h], by rw [hr]; simp⟩
/-- What is handed back where a row is wrong. -/
theorem Rd.zero {w wr : World} {b2 g b7 : Nat} {rows : List ByteArray} {a b : Int} {ts os : List Int} {tv ov : Value} (h : Rd w b2 g b7 rows a b ts os tv ov wr) (v0 v1 v2 v3 : Value) :
    Blk ((((wr.setCell ⟨b2, 0, none⟩ v0).setCell ⟨b2, 1, none⟩ v1).setCell ⟨b2, 2, none⟩ v2).setCell ⟨b2, 3, none⟩ v3) b2 [v0, v1, v2, v3] 24 ∧ Below w.heap.size w ((((wr.setCell ⟨b2, 0, none⟩ v0).setCell ⟨b2, 1, none⟩ v1).setCell ⟨b2, 2, none⟩ v2).setCell ⟨b2, 3, none⟩ v3) := by
  refine ⟨(((h.res.set 0 v0).set 1 v1).set 2 v2).set 3 v3, ?_⟩
  have l := h.low2.1
  refine ⟨h.be.os, h.be.tape, h.be.output, by simpa using h.be.size, fun k hk => ?_⟩
  rw [Below.heap_setCell _ _ _ _ (by show k ≠ b2; omega), Below.heap_setCell _ _ _ _ (by show k ≠ b2; omega), Below.heap_setCell _ _ _ _ (by show k ≠ b2; omega), Below.heap_setCell _ _ _ _ (by show k ≠ b2; omega)]
  exact h.be.block k hk
theorem Rd.done {w wr : World} {b2 g b7 : Nat} {rows : List ByteArray} {a b : Int} {ts os : List Int} {p q : Option Addr} {c d : Nat} (h : Rd w b2 g b7 rows a b ts os (.slice p ts.length c) (.slice q os.length d) wr) (v0 v1 v2 v3 : Value) :
    MapAt ((((wr.setCell ⟨b2, 0, none⟩ v0).setCell ⟨b2, 1, none⟩ v1).setCell ⟨b2, 2, none⟩ v2).setCell ⟨b2, 3, none⟩ v3) (.agg #[.int .i64 a, .int .i64 b, .slice p ts.length c, .slice q os.length d]) ⟨a, b, ts, os⟩ := by
  have l := h.low2
  have e : ∀ k, b7 + 1 ≤ k → ((((wr.setCell ⟨b2, 0, none⟩ v0).setCell ⟨b2, 1, none⟩ v1).setCell ⟨b2, 2, none⟩ v2).setCell ⟨b2, 3, none⟩ v3).heap[k]? = wr.heap[k]? := fun k hk => by
    rw [Below.heap_setCell _ _ _ _ (by show k ≠ b2; omega), Below.heap_setCell _ _ _ _ (by show k ≠ b2; omega), Below.heap_setCell _ _ _ _ (by show k ≠ b2; omega), Below.heap_setCell _ _ _ _ (by show k ≠ b2; omega)]
  exact ⟨p, c, q, d, rfl, (h.own1.stay fun k hk => e k (h.own1.block k hk).1).ints, (h.own2.stay fun k hk => e k (h.own2.block k hk).1).ints⟩
theorem byt_getD {r : ByteArray} {j : Nat} (h : j < r.size) : (byt r).getD j 0 = (r[j]'h).toNat := by
  obtain ⟨⟨l⟩⟩ := r
  have hl : j < l.length := h
  simp only [byt, List.getD, List.getElem?_map, List.getElem?_eq_getElem hl, Option.map_some, Option.getD_some]
  rfl
theorem byt_lt {r : ByteArray} {j : Nat} (h : j < r.size) : (byt r).getD j 0 < 256 := by rw [byt_getD h]; exact UInt8.toNat_lt _
theorem byt_take {r : ByteArray} {j : Nat} (h : j < r.size) (f : Nat → Int) (l : List Int) : l ++ ((byt r).take (j + 1)).map f = (l ++ ((byt r).take j).map f) ++ [f ((byt r).getD j 0)] := by
  have h2 : j < (byt r).length := by rw [byt_length]; exact h
  rw [List.take_add_one, List.map_append, List.append_assoc]
  simp [h2]
theorem byt_all {r : ByteArray} {j : Nat} (h : j < r.size) (ha : ((byt r).take j).all sgnK = true) (hk : sgnK ((byt r).getD j 0) = true) : ((byt r).take (j + 1)).all sgnK = true := by
  have h2 : j < (byt r).length := by rw [byt_length]; exact h
  rw [List.take_add_one, List.all_append, ha]
  simpa [h2] using hk
theorem byt_none {r : ByteArray} {j n : Nat} (h : j < r.size) (hk : sgnK ((byt r).getD j 0) = false) : rowOk n r = false := by
  have h2 : j < (byt r).length := by rw [byt_length]; exact h
  have : (byt r).all sgnK = false := by
    rw [List.all_eq_false]
    exact ⟨(byt r).getD j 0, by simp [h2], by rw [hk]; simp⟩
  rw [rowOk, this, Bool.and_false]
set_option maxHeartbeats 4000000 in
theorem readRows_any (s : ByteArray) (hs : s.size ≤ 1000) (w : World) (hx : Max w) : Calls Tryd.prog 30 #[.string s] w fun e w' => OutRows w s e w' := by
  have h51 : Hid (∀ W, Calls Tryd.prog 51 #[.string s, .string ⟨#[10]⟩] W fun e w' => e = .returned (.tuple #[.string (bodyOf s), .bool (ended s)]) ∧ w' = W) := fun W => cutSuffix_any s ⟨#[10]⟩ W (by omega)
  have h52 : Hid (∀ W, Max W → Calls Tryd.prog 52 #[.string (bodyOf s), .string ⟨#[10]⟩] W fun e w' => e = .returned (.slice (some ⟨W.heap.size, 0, none⟩) (rowsOf s).length (rowsOf s).length) ∧ w' = W.alloc (.cells ((rowsOf s).map Value.string).toArray 9)) := fun W h => by
    rw [rows_length]
    exact split_any _ _ W h (by have := body_size s; omega) (by decide)
  have h53 : Hid (∀ b W, b < 256 → Calls Tryd.prog 53 #[.int .u8 ((b : Nat) : Int)] W fun e w' => e = .returned (.tuple #[.int .i64 (sgnT b), .int .i64 (sgnO b), .bool (sgnK b)]) ∧ w' = W) := fun b W h => sign_any b h W
  have hfew := rows_few s
  have hpos : 0 < (rowsOf s).length := by rw [rows_length]; omega
  have HSZ : Hid (∀ r ∈ rowsOf s, r.size ≤ 1000) := fun r h => Nat.le_trans (rows_size h) hs
  have HOK : Hid (okRows s = (ended s && (rowsOf s).all (rowOk ((rowsOf s).getD 0 ByteArray.empty).size))) := rfl
  have HMP : Hid (mapOf s = if okRows s then ⟨(((rowsOf s).getD 0 ByteArray.empty).size : Int), ((rowsOf s).length : Int), tilesOf (rowsOf s), oresOf (rowsOf s)⟩ else ⟨0, 0, [], []⟩) := rfl
  have HX := hid hx
  unfold OutRows
  generalize mapOf s = mp at *
  generalize okRows s = ok at *
  generalize rowsOf s = rows at *
  generalize bodyOf s = T at *
  generalize ended s = E at *
  obtain ⟨K, hK⟩ : ∃ K, K = rows.length := ⟨_, rfl⟩
  rw [← hK] at hfew hpos
  have HK := hid (fun (_ : Nat) => hK)
  rw [← hK] at h52
  clear hK hx
  rcases E with _ | _
  · have hok : ok = false := by have := HOK.out; simpa using this
    subst hok
    have hmp : mp = ⟨0, 0, [], []⟩ := by have := HMP.out; simpa using this
    subst hmp
    clear h52 h53 HOK HMP HSZ HK
    go_enter Tryd.func30, Tryd.ntmps30
    go_wp2_with fail
    refine Calls.mono (h51.out _) ?_
    rintro e w1 ⟨rfl, rfl⟩
    go_wp2
    exact bodyPost_ret (results_cell_tmp Tryd.results30 rfl rfl (Blk.new w [I 0, I 0, .slice none 0 0, .slice none 0 0] 24) Tryd.underlying24 rfl size24) rfl ⟨_, rfl, zero_map _, (Below.refl _ _).alloc (Nat.le_refl _) _⟩
  · go_enter Tryd.func30, Tryd.ntmps30
    go_wp2_with fail
    refine Calls.mono (h51.out _) ?_
    rintro e w1 ⟨rfl, rfl⟩
    obtain ⟨W, hW⟩ : ∃ W, W = w.alloc (Obj.cells #[Value.int .i64 0, Value.int .i64 0, Value.slice none 0 0, Value.slice none 0 0] 24) := ⟨_, rfl⟩
    obtain ⟨b2, hb2⟩ : ∃ b2, b2 = w.heap.size := ⟨_, rfl⟩
    rw [← hW, ← hb2]
    have HW : Hid (Below w.heap.size w W ∧ Blk W b2 [I 0, I 0, .slice none 0 0, .slice none 0 0] 24 ∧ W.heap.size = b2 + 1) := by
      rw [hW, hb2]
      exact ⟨(Below.refl _ _).alloc (Nat.le_refl _) _, Blk.new _ _ _, by simp⟩
    have HB2 := hid (fun (_ : Nat) => hb2)
    have HXW : Hid (Max W) := by
      obtain ⟨m, hm⟩ := HX.out
      exact ⟨m, by rw [HW.out.1.cell (p := ⟨0, 0, none⟩) (lt_of_cell hm)]; exact hm⟩
    clear hW hb2 HX
    go_wp2_with fail
    refine Calls.mono (h52.out _ HXW.out) ?_
    rintro e w1 ⟨rfl, hw1⟩
    obtain ⟨g, hg⟩ : ∃ g, g = W.heap.size := ⟨_, rfl⟩
    rw [← hg]
    have HW1 : Hid (Below w.heap.size w w1 ∧ Blk w1 b2 [I 0, I 0, .slice none 0 0, .slice none 0 0] 24 ∧ Blk w1 g (rows.map Value.string) 9 ∧ w1.heap.size = g + 1 ∧ b2 < g) := by
      rw [hw1, hg]
      exact ⟨HW.out.1.alloc (by have := HW.out.1.size; omega) _, HW.out.2.1.alloc _, Blk.new _ _ _, by simp, by have := HW.out.2.2; omega⟩
    clear hw1 hg HW HXW h52
    obtain ⟨r0, hr0⟩ : ∃ r0, rows.getD 0 ByteArray.empty = r0 := ⟨_, rfl⟩
    rw [hr0] at HOK HMP
    have HR0 := hid (fun (_ : Nat) => hr0)
    have c0 : w1.cell? ⟨g, 0, none⟩ = some (.string r0) := by
      rw [HW1.out.2.2.1.cell 0, ← hr0]
      have := HK.out 0
      simp [show 0 < rows.length by omega]
    have hr0s : r0.size ≤ 1000 := HSZ.out r0 (by
      have := HK.out 0
      rw [← hr0]
      simp [show 0 < rows.length by omega])
    clear hr0
    have hp' : (0 : Int) < (K : Int) := by omega
    go_upto_region 6 with fail
    obtain ⟨W2, hW2⟩ : ∃ W2, W2 = w1.alloc (Obj.cells #[Value.int .i64 (r0.size : Int), Value.int .i64 (K : Int), Value.slice none 0 0, Value.slice none 0 0] 24) := ⟨_, rfl⟩
    obtain ⟨b7, hb7⟩ : ∃ b7, b7 = w1.heap.size := ⟨_, rfl⟩
    rw [← hW2, ← hb7]
    have HRD : Hid (Rd w b2 g b7 rows (r0.size : Int) (K : Int) [] [] (.slice none 0 0) (.slice none 0 0) W2) := by
      have h1 := HW1.out
      rw [hW2, hb7]
      exact ⟨h1.1.alloc (by have := h1.1.size; omega) _, h1.2.1.alloc _, h1.2.2.1.alloc _, Blk.new _ _ _, OwnI.nil _ _, OwnI.nil _ _, (fun k hk => by simp [Value.ownBlock] at hk), by have := HB2.out 0; omega⟩
    clear hW2 hb7 HW1 c0
    go_wp2_with fail
    go_loopw [33] (fun iv wr => ∃ i : Nat, ∃ tv ov, i ≤ K ∧ iv = .int .i64 (i : Int) ∧ Hid (Rd w b2 g b7 rows (r0.size : Int) (K : Int) (tilesOf (rows.take i)) (oresOf (rows.take i)) tv ov wr) ∧ Hid ((rows.take i).all (rowOk r0.size) = true)) (fun iv _ => K - (intOf iv).toNat)
    case atStart => exact ⟨0, _, _, by omega, rfl, HRD, rfl⟩
    case round =>
      clear HRD
      obtain ⟨i, tv, ov, hi, rfl, HRD, HA⟩ := hrel
      have hC0 : wr.cell? ⟨b2, 0, none⟩ = some (.int .i64 0) := HRD.out.res.cell 0
      have hC1 : wr.cell? ⟨b2, 1, none⟩ = some (.int .i64 0) := HRD.out.res.cell 1
      have hC2 : wr.cell? ⟨b2, 2, none⟩ = some (.slice none 0 0) := HRD.out.res.cell 2
      have hC3 : wr.cell? ⟨b2, 3, none⟩ = some (.slice none 0 0) := HRD.out.res.cell 3
      have hF0 := HRD.out.res.frozen 0
      have hF1 := HRD.out.res.frozen 1
      have hF2 := HRD.out.res.frozen 2
      have hF3 := HRD.out.res.frozen 3
      obtain ⟨p, c, rfl⟩ := HRD.out.own1.form
      obtain ⟨q, d, rfl⟩ := HRD.out.own2.form
      have hD0 : wr.cell? ⟨b7, 0, none⟩ = some (.int .i64 (r0.size : Int)) := HRD.out.mp.cell 0
      by_cases hl : i < K
      · have hl' : (i : Int) < (K : Int) := by omega
        have hl0 : (0 : Int) ≤ (i : Int) := by omega
        have hlr : Hid (i < rows.length) := by have := HK.out 0; show i < rows.length; omega
        obtain ⟨r, hr⟩ : ∃ r, rows.getD i ByteArray.empty = r := ⟨_, rfl⟩
        have hG : wr.cell? ⟨g, i, none⟩ = some (.string r) := by
          rw [HRD.out.rws.cell i, ← hr]
          simp [hlr.out]
        have hrs : r.size ≤ 1000 := HSZ.out r (by rw [← hr]; simp [hlr.out])
        have HRR := hid (fun (_ : Nat) => hr)
        clear hr
        by_cases hsz : r.size = r0.size
        · have hsz' : ((r.size : Int) != (r0.size : Int)) = false := by simp; omega
          have HTL := hid (tiles_len _ HA.out)
          have HLT : Hid ((rows.take i).length * r0.size ≤ 1001000) := by
            have h1 : (rows.take i).length ≤ 1001 := by rw [List.length_take]; omega
            exact Nat.mul_le_mul h1 hr0s
          have HTT := hid (take_tiles hlr.out)
          have HAT : Hid (rowOk r0.size r = true → (rows.take (i + 1)).all (rowOk r0.size) = true) := fun h => all_take hlr.out HA.out (by rw [HRR.out 0]; exact h)
          have HAF : Hid (rowOk r0.size r = false → ok = false) := fun h => by rw [HOK.out, Bool.true_and]; exact all_false hlr.out (by rw [HRR.out 0]; exact h)
          rw [HRR.out 0] at HTT
          have HSZE := hid (fun (_ : Nat) => hsz)
          obtain ⟨N, hN⟩ : ∃ N, (rows.take i).length * r0.size = N := ⟨_, rfl⟩
          rw [hN] at HTL HLT
          have HN1 : Hid ((tilesOf (rows.take i)).length = N) := HTL.out.1
          have HN2 : Hid ((oresOf (rows.take i)).length = N) := HTL.out.2
          rw [HN1.out, HN2.out] at HRD
          clear hN HTL
          generalize tilesOf (rows.take i) = ts at *
          generalize oresOf (rows.take i) = os at *
          clear hsz
          go_wp2_with fail
          go_loopw [45] (fun iv wq => ∃ j : Nat, ∃ p c q d, j ≤ r.size ∧ iv = .int .i64 (j : Int) ∧ Hid (Rd w b2 g b7 rows (r0.size : Int) (K : Int) (ts ++ ((byt r).take j).map sgnT) (os ++ ((byt r).take j).map sgnO) (.slice p (N + j) c) (.slice q (N + j) d) wq) ∧ Hid (((byt r).take j).all sgnK = true)) (fun iv _ => r.size - (intOf iv).toNat)
          case atStart => exact ⟨0, p, c, q, d, by omega, rfl, by simpa using HRD, rfl⟩
          case round =>
            clear HRD hC0 hC1 hC2 hC3 hF0 hF1 hF2 hF3 hD0 hG p c q d
            obtain ⟨j, p, c, q, d, hj, rfl, HRD, HB⟩ := hrel
            by_cases hlj : j < r.size
            · have hlj' : (j : Int) < (r.size : Int) := by omega
              have hlj0 : (0 : Int) ≤ (j : Int) := by omega
              have HX1 := hid (byt_lt hlj)
              have HX2 := hid (byt_getD hlj)
              have HT1 := hid (byt_take hlj sgnT ts)
              have HT2 := hid (byt_take hlj sgnO os)
              have HK1 : Hid (sgnK ((byt r).getD j 0) = true → ((byt r).take (j + 1)).all sgnK = true) := byt_all hlj HB.out
              have HK2 : Hid (sgnK ((byt r).getD j 0) = false → ok = false) := fun h => HAF.out (byt_none hlj h)
              have HL1 : Hid ((ts ++ ((byt r).take j).map sgnT).length + 1 = N + (j + 1)) := by
                have h1 : j ≤ (byt r).length := by rw [byt_length]; omega
                show _ = _
                rw [List.length_append, List.length_map, List.length_take, HN1.out, Nat.min_eq_left h1]; omega
              have HL2 : Hid ((os ++ ((byt r).take j).map sgnO).length + 1 = N + (j + 1)) := by
                have h1 : j ≤ (byt r).length := by rw [byt_length]; omega
                show _ = _
                rw [List.length_append, List.length_map, List.length_take, HN2.out, Nat.min_eq_left h1]; omega
              go_wp2_with fail
              rw [HX2.out] at HX1 HT1 HT2 HK1 HK2
              generalize r[j].toNat = b at *
              refine Calls.mono (h53.out b _ HX1.out) ?_
              rintro e w3 ⟨rfl, rfl⟩
              generalize ts ++ ((byt r).take j).map sgnT = tj at *
              generalize os ++ ((byt r).take j).map sgnO = oj at *
              rcases Bool.eq_false_or_eq_true (sgnK b) with hk | hk
              · have HK3 := hid (HK1.out hk)
                rw [hk]
                generalize sgnT b = tt at *
                generalize sgnO b = oo at *
                have d2 : w3.cell? ⟨b7, 2, none⟩ = some (.slice p (N + j) c) := HRD.out.mp.cell 2
                have f2 := HRD.out.mp.frozen 2
                have hO : OwnI (w3.alloc (.cells #[.int .i64 tt] 3)) (b7 + 1) (.slice p (N + j) c) tj := HRD.out.own1.below ((Below.refl _ _).alloc (Nat.le_refl _) _)
                have hB : IntsAt (w3.alloc (.cells #[.int .i64 tt] 3)) (.slice (some ⟨w3.heap.size, 0, none⟩) 1 1) [tt] := ints_one w3 _ tt rfl
                have hNN : N + (j + 1) ≤ 1099511627776 := by have := HLT.out; omega
                have hbs : b7 + 1 ≤ (w3.alloc (.cells #[.int .i64 tt] 3)).heap.size := by have := HRD.out.mp.lt; simp; omega
                have HM1 : Hid (tj.length + [tt].length = N + (j + 1)) := HL1
                have HM2 : Hid (oj.length + [oo].length = N + (j + 1)) := HL2
                have HO := hid hO
                have HBI := hid hB
                have HBS := hid hbs
                clear hO hB hbs
                go_upto_region 18 with (first
                  | ((with_reducible refine wpL_appendN (b7 + 1) (.slice p (N + j) c) (.slice (some ⟨w3.heap.size, 0, none⟩) 1 1) tj [tt] (N + (j + 1)) (by simp) HM1.out ?_ ?_ HO.out HBI.out hNN HBS.out ?_); (rfl); (rfl); (intro p1 c1 w4 ho4 hg4); (have HR4 := hid (HRD.out.tile (.cells #[.int .i64 tt] 3) hg4 ho4)); (have hx4 := hg4.blk (HRD.out.mp.alloc (.cells #[.int .i64 tt] 3)) (fun e => by have := (HRD.out.own1.block _ e).1; omega)); (have d4 := hx4.cell 2); (have f4 := hx4.frozen 2); (clear hx4 ho4 hg4 HO HBI HBS); (simp only [List.getElem?_cons_succ, List.getElem?_cons_zero] at d4); (simp only [Act.put, List.setIfInBounds_toArray, List.set_cons_zero, List.set_cons_succ])))
                clear d2 f2 d4 f4 HRD
                generalize w4.setCell ⟨b7, 2, none⟩ (.slice p1 (N + (j + 1)) c1) = w5 at *
                have d2 : w5.cell? ⟨b7, 3, none⟩ = some (.slice q (N + j) d) := HR4.out.mp.cell 3
                have f2 := HR4.out.mp.frozen 3
                have hO : OwnI (w5.alloc (.cells #[.int .i64 oo] 3)) (b7 + 1) (.slice q (N + j) d) oj := HR4.out.own2.below ((Below.refl _ _).alloc (Nat.le_refl _) _)
                have hB : IntsAt (w5.alloc (.cells #[.int .i64 oo] 3)) (.slice (some ⟨w5.heap.size, 0, none⟩) 1 1) [oo] := ints_one w5 _ oo rfl
                have hbs : b7 + 1 ≤ (w5.alloc (.cells #[.int .i64 oo] 3)).heap.size := by have := HR4.out.mp.lt; simp; omega
                have HO := hid hO
                have HBI := hid hB
                have HBS := hid hbs
                clear hO hB hbs
                go_upto_region 19 with (first
                  | ((with_reducible refine wpL_appendN (b7 + 1) (.slice q (N + j) d) (.slice (some ⟨w5.heap.size, 0, none⟩) 1 1) oj [oo] (N + (j + 1)) (by simp) HM2.out ?_ ?_ HO.out HBI.out hNN HBS.out ?_); (rfl); (rfl); (intro p2 c2 w6 ho6 hg6); (have HR6 := hid (HR4.out.ore (.cells #[.int .i64 oo] 3) hg6 ho6)); (have hx6 := hg6.blk (HR4.out.mp.alloc (.cells #[.int .i64 oo] 3)) (fun e => by have := (HR4.out.own2.block _ e).1; omega)); (have d6 := hx6.cell 3); (have f6 := hx6.frozen 3); (clear hx6 ho6 hg6 HO HBI HBS); (simp only [List.getElem?_cons_succ, List.getElem?_cons_zero] at d6); (simp only [Act.put, List.setIfInBounds_toArray, List.set_cons_zero, List.set_cons_succ])))
                rw [← HT1.out, ← HT2.out] at HR6
                go_wp2
                go_roundw
                case rel => exact ⟨j + 1, _, _, _, _, by omega, by simp, HR6, HK3⟩
                case measure => simp [intOf]; omega
              · rw [hk]
                have hok := HK2.out hk
                subst hok
                have hmp : mp = ⟨0, 0, [], []⟩ := by have := HMP.out; simpa using this
                subst hmp
                have hC0 : w3.cell? ⟨b2, 0, none⟩ = some (.int .i64 0) := HRD.out.res.cell 0
                have hC1 : w3.cell? ⟨b2, 1, none⟩ = some (.int .i64 0) := HRD.out.res.cell 1
                have hC2 : w3.cell? ⟨b2, 2, none⟩ = some (.slice none 0 0) := HRD.out.res.cell 2
                have hC3 : w3.cell? ⟨b2, 3, none⟩ = some (.slice none 0 0) := HRD.out.res.cell 3
                have hF0 := HRD.out.res.frozen 0
                have hF1 := HRD.out.res.frozen 1
                have hF2 := HRD.out.res.frozen 2
                have hF3 := HRD.out.res.frozen 3
                go_wp2
                obtain ⟨z1, z2⟩ := HRD.out.zero (I 0) (I 0) (.slice none 0 0) (.slice none 0 0)
                exact bodyPost_ret (results_cell_tmp Tryd.results30 rfl rfl z1 Tryd.underlying24 rfl size24) rfl ⟨_, rfl, zero_map _, z2⟩
            · obtain rfl : j = r.size := by omega
              have hlj' : ((r.size : Int) < (r.size : Int)) = False := by simp
              have e1 : (byt r).take r.size = byt r := by rw [← byt_length]; exact List.take_length
              rw [e1, ← HTT.out.1, ← HTT.out.2] at HRD
              rw [e1] at HB
              have HA2 := hid (HAT.out (by rw [rowOk, HB.out, HSZE.out 0]; simp))
              go_wp2
              go_roundw
              case rel => exact ⟨i + 1, _, _, by omega, by simp, HRD, HA2⟩
              case measure => simp [intOf]; omega
        · have hsz' : ((r.size : Int) != (r0.size : Int)) = true := by simp; omega
          have hok : ok = false := by rw [HOK.out, Bool.true_and]; exact all_false hlr.out (by rw [HRR.out 0]; simp [rowOk, hsz])
          subst hok
          have hmp : mp = ⟨0, 0, [], []⟩ := by have := HMP.out; simpa using this
          subst hmp
          go_wp2
          obtain ⟨z1, z2⟩ := HRD.out.zero (I 0) (I 0) (.slice none 0 0) (.slice none 0 0)
          exact bodyPost_ret (results_cell_tmp Tryd.results30 rfl rfl z1 Tryd.underlying24 rfl size24) rfl ⟨_, rfl, zero_map _, z2⟩
      · obtain rfl : i = K := by omega
        have hl' : ((i : Int) < (i : Int)) = False := by simp
        have hD1 : wr.cell? ⟨b7, 1, none⟩ = some (.int .i64 (i : Int)) := HRD.out.mp.cell 1
        have hD2 := HRD.out.mp.cell 2
        have hD3 := HRD.out.mp.cell 3
        simp only [List.getElem?_cons_succ, List.getElem?_cons_zero] at hD2 hD3
        have HTK : Hid (rows.take i = rows) := by rw [HK.out 0]; exact List.take_length
        rw [HTK.out] at HRD HA hD2 hD3
        have hok : ok = true := by rw [HOK.out, Bool.true_and]; exact HA.out
        subst hok
        have hmp : mp = ⟨(r0.size : Int), (i : Int), tilesOf rows, oresOf rows⟩ := by have := HMP.out; rw [if_pos rfl, ← HK.out 0] at this; exact this
        subst hmp
        go_wp2
        obtain ⟨z1, z2⟩ := HRD.out.zero (I (r0.size : Int)) (I (i : Int)) (.slice p (tilesOf rows).length c) (.slice q (oresOf rows).length d)
        exact bodyPost_ret (results_cell_tmp Tryd.results30 rfl rfl z1 Tryd.underlying24 rfl size24) rfl ⟨_, rfl, HRD.out.done _ _ _ _, z2⟩
end Go.Proofs.YthinldcblbgdnaaDoor
