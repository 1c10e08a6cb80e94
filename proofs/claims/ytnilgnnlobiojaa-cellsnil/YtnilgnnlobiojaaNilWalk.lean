/- The law CellsNil, walked. -/
import Derived.Test.YtnilgnnlobiojaaNilar
import Derived.Test.YtnilgnnlobiojaaAwake
namespace Go.Proofs.Ytnilgnnlobiojaa
open Go.RowKit
/-- Where the first k IDs are: a hundred to a row. -/
def gF (k : Nat) (j : Int) : Option Cl := if 0 ≤ j ∧ j < k then some (Int.tmod j 100, Int.tdiv j 100) else none
theorem gF_next (k : Nat) : insF (gF k) k (Int.tmod k 100, Int.tdiv k 100) = gF (k + 1) := by
  funext j
  unfold insF gF
  by_cases hj : j = (k : Int)
  · rw [if_pos hj, if_pos (by omega), hj]
  · rw [if_neg hj]
    by_cases h : 0 ≤ j ∧ j < k
    · rw [if_pos h, if_pos (by omega)]
    · rw [if_neg h, if_neg (by omega)]
theorem gF_zero : gF 0 = fun _ => none := by
  funext j
  unfold gF
  rw [if_neg (by omega)]
/-- An index that holds the first k IDs. -/
def Gx (w : World) (b base k : Nat) : Prop := ∃ A, Ix w b base A (gF k) k ∧ Ok A (gF k) k
set_option maxHeartbeats 2000000 in
theorem Gx.put {w : World} {b base k : Nat} (h : Gx w b base k) (hk : k < 4096) (hb : base ≤ w.heap.size) :
    Calls Try.prog 12 #[.pointer (some ⟨b, 0, none⟩), .int .i64 k, C (Int.tmod k 100) (Int.tdiv k 100)] w fun e w' => e = .returned (.int .i64 0) ∧ Gx w' b base (k + 1) ∧ Below base w w' := by
  obtain ⟨A, hi, hok⟩ := h
  have hnone : gF k k = none := by unfold gF; rw [if_neg (by omega)]
  have he : putE (gF k) k k (Int.tmod k 100, Int.tdiv k 100) = 0 := by
    unfold putE
    have hm : measC (Int.tmod k 100, Int.tdiv k 100) = true := by
      have h1 := Int.emod_nonneg (k : Int) (b := 100) (by omega)
      have h2 := Int.emod_lt_of_pos (k : Int) (b := 100) (by omega)
      have h3 : Int.tmod k 100 = (k : Int) % 100 := Int.tmod_eq_emod_of_nonneg (by omega)
      have h4 : Int.tdiv k 100 = (k : Int) / 100 := Int.tdiv_eq_ediv_of_nonneg (by omega)
      rw [h3, h4]
      unfold measC
      simp
      omega
    rw [if_pos hm, hnone, if_neg]
    simp; omega
  refine Calls.mono (put_any b base k A (gF k) k _ _ w hi hok (by omega) hb) ?_
  rintro e w' ⟨rfl, h1, _, h2, _⟩
  rw [he] at h2 ⊢
  refine ⟨rfl, ⟨insA (offA A (gF k) k) k (Int.tmod k 100, Int.tdiv k 100), ?_, ?_⟩, h1⟩
  · have h3 := h2 rfl
    rw [gF_next] at h3
    unfold offN at h3
    rw [hnone] at h3
    exact h3
  · have h3 := (hok.off k).ins (remF_self (gF k) k) (Int.tmod k 100, Int.tdiv k 100)
    rw [insF_rem, gF_next] at h3
    unfold offN at h3
    rw [hnone] at h3
    exact h3
/-- What follows on a full index: one more is refused, one that is there moves, one is taken, and then one more goes in. -/
theorem Gx.last {w : World} {b base : Nat} (h : Gx w b base 4096) (hb : base ≤ w.heap.size) :
    Calls Try.prog 12 #[.pointer (some ⟨b, 0, none⟩), .int .i64 (-1), C 0 0] w fun e w1 => e = .returned (.int .i64 6) ∧ Below base w w1 ∧
      Calls Try.prog 12 #[.pointer (some ⟨b, 0, none⟩), .int .i64 5, C (-1000) 0] w1 fun e w2 => e = .returned (.int .i64 0) ∧ Below base w1 w2 ∧
        Calls Try.prog 18 #[.pointer (some ⟨b, 0, none⟩), .int .i64 6] w2 fun e w3 => e = .returned (.int .i64 0) ∧ Below base w2 w3 ∧
          Calls Try.prog 12 #[.pointer (some ⟨b, 0, none⟩), .int .i64 (-1), C 0 0] w3 fun e w4 => e = .returned (.int .i64 0) ∧ Below base w3 w4 := by
  obtain ⟨A, hi, hok⟩ := h
  have n1 : gF 4096 (-1) = none := by unfold gF; rw [if_neg (by omega)]
  have n5 : gF 4096 5 = some (5, 0) := by unfold gF; rw [if_pos (by omega)]; rfl
  have n6 : gF 4096 6 = some (6, 0) := by unfold gF; rw [if_pos (by omega)]; rfl
  obtain ⟨F, hF⟩ : ∃ F, F = gF 4096 := ⟨_, rfl⟩
  obtain ⟨n, hn⟩ : ∃ n, n = 4096 := ⟨_, rfl⟩
  rw [← hF] at n1 n5 n6
  rw [← hF, ← hn] at hi hok
  refine Calls.mono (put_any b base n A F (-1) 0 0 w hi hok (by omega) hb) ?_
  rintro e w1 ⟨rfl, hb1, _, _, hi1⟩
  have he1 : putE F n (-1) (0, 0) = 6 := by unfold putE; rw [if_pos (by decide), n1, hn]; rfl
  rw [he1] at hi1 ⊢
  refine ⟨rfl, hb1, ?_⟩
  have hs1 := Nat.le_trans hb hb1.size
  refine Calls.mono (put_any b base n A F 5 (-1000) 0 w1 (hi1 (by decide)) hok (by omega) hs1) ?_
  rintro e w2 ⟨rfl, hb2, _, hi2, _⟩
  have he2 : putE F n 5 (-1000, 0) = 0 := by unfold putE; rw [if_pos (by decide), n5]; rfl
  rw [he2] at hi2 ⊢
  refine ⟨rfl, hb2, ?_⟩
  have hs2 := Nat.le_trans hs1 hb2.size
  have ho2 : offN F 5 n = n - 1 := by unfold offN; rw [n5]
  have hok2 := (hok.off 5).ins (remF_self F 5) (-1000, 0)
  rw [insF_rem] at hok2
  have hi2' := hi2 rfl
  rw [ho2, show n - 1 + 1 = n by omega] at hi2' hok2
  obtain ⟨A2, hA2⟩ : ∃ A2, A2 = insA (offA A F 5) 5 (-1000, 0) := ⟨_, rfl⟩
  obtain ⟨F2, hF2⟩ : ∃ F2, F2 = insF F 5 (-1000, 0) := ⟨_, rfl⟩
  rw [← hA2, ← hF2] at hi2' hok2
  have m6 : F2 6 = some (6, 0) := by rw [hF2]; unfold insF; rw [if_neg (by decide), n6]
  have m1 : F2 (-1) = none := by rw [hF2]; unfold insF; rw [if_neg (by decide), n1]
  refine Calls.mono (take_any b base n A2 F2 6 w2 hi2' hok2 (by omega) hs2) ?_
  rintro e w3 ⟨rfl, hb3, _, hi3⟩
  have he3 : takeE F2 6 = 0 := by unfold takeE; rw [m6]; rfl
  rw [he3]
  refine ⟨rfl, hb3, ?_⟩
  have hs3 := Nat.le_trans hs2 hb3.size
  have hok3 := hok2.off 6
  have ho3 : offN F2 6 n = n - 1 := by unfold offN; rw [m6]
  rw [ho3] at hi3 hok3
  have r1 : remF F2 6 (-1) = none := by unfold remF; rw [if_neg (by decide), m1]
  refine Calls.mono (put_any b base (n - 1) _ _ (-1) 0 0 w3 hi3 hok3 (by omega) hs3) ?_
  rintro e w4 ⟨rfl, hb4, _, _, _⟩
  have he4 : putE (remF F2 6) (n - 1) (-1) (0, 0) = 0 := by unfold putE; rw [if_pos (by decide), r1, hn]; rfl
  rw [he4]
  exact ⟨rfl, hb4⟩
set_option maxRecDepth 20000 in
set_option maxHeartbeats 4000000 in
theorem nil_walk (id x y : Int) (w : World) :
    Calls Try.prog 7 #[.int .i64 id, C x y] w fun e w' => Out w (.bool true) e w' := by
  have HAW := hid awake_any
  have HAR := hid (fun W => around_nil x y 9 W)
  have HWH := hid (fun W => where_nil id W)
  have HCL := hid (fun W => closest_nil x y 9 1 W)
  have HPU := hid (fun W => put_nil id x y W)
  have HTA := hid (fun W => take_nil id W)
  have HWO := hid (fun W => who_nil x y W)
  have HLE := hid len_nil
  obtain ⟨g, hg⟩ : ∃ g, g = w.heap.size := ⟨_, rfl⟩
  obtain ⟨V, hV⟩ : ∃ V, V = w.alloc (.cells #[.int .i64 x, .int .i64 y] 32) := ⟨_, rfl⟩
  have hb : Below w.heap.size w V := by rw [hV]; exact (Below.refl _ _).alloc (Nat.le_refl _) _
  have h1 : Blk V g [.int .i64 x, .int .i64 y] 32 := by rw [hV]; exact Blk.new' _ _ _ _ hg
  have HB := hid hb
  have H1 := hid h1
  clear hb h1
  unfold Out at *
  unfold C at *
  go_enter Try.func7, Try.ntmps7
  go_upto_region 1 with fail
  rw [← hV, ← hg]
  clear hV hg
  go_upto_region 3 with (go_at_call 8; refine Calls.mono (HAW.out _) ?_; rintro _ W1 ⟨rfl, hb1⟩)
  have HB1 := hid (HB.out.trans (hb1.mono HB.out.size))
  have H2 := hid (H1.out.below hb1 H1.out.lt)
  clear hb1 HB H1
  go_upto_region 5 with (go_at_call 14; refine Calls.mono (HWH.out _) ?_; rintro _ W2 ⟨rfl, hb2⟩)
  obtain ⟨W3, hW3⟩ : ∃ W3, W3 = W2.alloc (.cells #[.int .i64 0, .int .i64 0] 32) := ⟨_, rfl⟩
  have hb3 := hb2.alloc hb2.size (.cells #[.int .i64 0, .int .i64 0] 32)
  rw [← hW3] at hb3 ⊢
  have HB3 := hid (HB1.out.trans (hb3.mono HB1.out.size))
  have H3 := hid (H2.out.below hb3 H2.out.lt)
  have c0 : W3.cell? ⟨g, 0, none⟩ = some (.int .i64 x) := H3.out.cell 0
  have c1 : W3.cell? ⟨g, 1, none⟩ = some (.int .i64 y) := H3.out.cell 1
  clear hb2 hb3 HB1 H2 hW3
  go_upto_region 6 with (go_at_call 19; refine Calls.mono (HCL.out _) ?_; rintro _ W4 ⟨rfl, hb4⟩)
  have HB4 := hid (HB3.out.trans (hb4.mono HB3.out.size))
  have H4 := hid (H3.out.below hb4 H3.out.lt)
  have d0 : W4.cell? ⟨g, 0, none⟩ = some (.int .i64 x) := H4.out.cell 0
  have d1 : W4.cell? ⟨g, 1, none⟩ = some (.int .i64 y) := H4.out.cell 1
  clear hb4 HB3 H3 c0 c1
  go_wp2_with fail
  refine Calls.mono (HPU.out _) ?_
  rintro _ W5 ⟨rfl, hb5⟩
  have HB5 := hid (HB4.out.trans (hb5.mono HB4.out.size))
  have H5 := hid (H4.out.below hb5 H4.out.lt)
  clear hb5 HB4 H4 d0 d1
  go_wp2_with fail
  refine Calls.mono (HTA.out _) ?_
  rintro _ W6 ⟨rfl, hb6⟩
  have HB6 := hid (HB5.out.trans (hb6.mono HB5.out.size))
  have H6 := hid (H5.out.below hb6 H5.out.lt)
  have d0 : W6.cell? ⟨g, 0, none⟩ = some (.int .i64 x) := H6.out.cell 0
  have d1 : W6.cell? ⟨g, 1, none⟩ = some (.int .i64 y) := H6.out.cell 1
  clear hb6 HB5 H5
  go_wp2_with fail
  refine Calls.mono (HWO.out _) ?_
  rintro _ W7 ⟨p7, k7, rfl, _, hb7⟩
  have HB7 := hid (HB6.out.trans (hb7.mono HB6.out.size))
  have H7 := hid (H6.out.below hb7 H6.out.lt)
  have e0 : W7.cell? ⟨g, 0, none⟩ = some (.int .i64 x) := H7.out.cell 0
  have e1 : W7.cell? ⟨g, 1, none⟩ = some (.int .i64 y) := H7.out.cell 1
  clear hb7 HB6 H6 d0 d1
  simp only [List.length_nil]
  go_wp2_with fail
  refine Calls.mono (HAR.out _) ?_
  rintro _ W8 ⟨p8, k8, rfl, _, hb8⟩
  have HB8 := hid (HB7.out.trans (hb8.mono HB7.out.size))
  clear hb8 HB7 H7 e0 e1
  simp only [List.length_nil]
  go_upto_region 8 with (go_at_call 11; refine Calls.mono (HLE.out _) ?_; rintro _ W9 ⟨rfl, h9⟩; replace h9 := h9.symm; subst h9)
  clear HAW HAR HWH HCL HPU HTA HWO HLE
  obtain ⟨b, hb⟩ : ∃ b, b = W8.heap.size := ⟨_, rfl⟩
  obtain ⟨Z, hZ⟩ : ∃ Z, Z = W8.alloc (.cells #[.map none, .map none] 55) := ⟨_, rfl⟩
  have hI : Gx Z b b 0 := ⟨_, by rw [hZ, hb, gF_zero]; exact Ix.new W8, by rw [gF_zero]; exact Ok.empty⟩
  have hBZ : Below w.heap.size w Z := by rw [hZ]; exact HB8.out.alloc HB8.out.size _
  have hSZ : b ≤ Z.heap.size := by rw [hZ, hb]; simp
  have hWB : w.heap.size ≤ b := by rw [hb]; exact HB8.out.size
  have HI := hid hI
  have HBZ := hid hBZ
  have HSZ := hid hSZ
  have HWB := hid hWB
  have HZE := hid (fun (_ : Nat) => hZ)
  have HBE := hid (fun (_ : Nat) => hb)
  clear hI hBZ hSZ hWB hZ hb HB8
  go_upto_region 9 with fail
  rw [← HZE.out 0, ← HBE.out 0]
  clear HZE HBE
  go_wp2_with fail
  go_loopw [11] (fun iv wr => ∃ k : Nat, iv = .int .i64 (k : Int) ∧ k ≤ 4096 ∧ Hid (Gx wr b b k) ∧ Hid (Below w.heap.size w wr) ∧ Hid (b ≤ wr.heap.size)) (fun iv _ => 4096 - (intOf iv).toNat)
  case atStart => exact ⟨0, rfl, by omega, HI, HBZ, HSZ⟩
  case round =>
    clear HI HBZ HSZ
    obtain ⟨k, rfl, hk, HI, HB, HS⟩ := hrel
    by_cases hlt : k < 4096
    · have hl' : (k : Int) < 4096 := by omega
      have hput := HI.out.put hlt HS.out
      have ht0 : 0 ≤ Int.tdiv k 100 ∧ Int.tdiv k 100 ≤ 100 := by
        rw [Int.tdiv_eq_ediv_of_nonneg (by omega)]; omega
      generalize hq : Int.tdiv k 100 = q at *
      generalize hp : Int.tmod k 100 = p at *
      have HPU := hid hput
      obtain ⟨hq0, hq1⟩ := ht0
      clear hput
      unfold C at HPU
      go_wp2_with fail
      refine Calls.mono HPU.out ?_
      rintro _ Y ⟨rfl, hgx, hby⟩
      have HGX := hid hgx
      have HBY := hid (HB.out.trans (hby.mono HWB.out))
      have HSY := hid (Nat.le_trans HS.out hby.size)
      clear hgx hby HPU HB HS HI hq hp hq0 hq1
      go_wp2
      go_roundw
      case rel => exact ⟨k + 1, by simp, by omega, HGX, HBY, HSY⟩
      case measure => simp [intOf]; omega
    · obtain rfl : k = 4096 := by omega
      have hl' : (((4096 : Nat) : Int) < 4096) = False := by decide
      have HLA := hid (HI.out.last HS.out)
      unfold C at HLA
      clear HI
      go_wp2_with fail
      refine Calls.mono HLA.out ?_
      rintro _ Y1 ⟨rfl, hb1, h1⟩
      have HB1 := hid (HB.out.trans (hb1.mono HWB.out))
      have HL1 := hid h1
      clear hb1 h1 HLA HB
      go_wp2_with fail
      refine Calls.mono HL1.out ?_
      rintro _ Y2 ⟨rfl, hb2, h2⟩
      have HB2 := hid (HB1.out.trans (hb2.mono HWB.out))
      have HL2 := hid h2
      clear hb2 h2 HL1 HB1
      go_wp2_with fail
      refine Calls.mono HL2.out ?_
      rintro _ Y3 ⟨rfl, hb3, h3⟩
      have HB3 := hid (HB2.out.trans (hb3.mono HWB.out))
      have HL3 := hid h3
      clear hb3 h3 HL2 HB2
      go_wp2_with fail
      refine Calls.mono HL3.out ?_
      rintro _ Y4 ⟨rfl, hb4⟩
      have HB4 := hid (HB3.out.trans (hb4.mono HWB.out))
      clear hb4 HL3 HB3
      go_wp2
      go_ret
      exact ⟨rfl, HB4.out⟩
end Go.Proofs.Ytnilgnnlobiojaa
